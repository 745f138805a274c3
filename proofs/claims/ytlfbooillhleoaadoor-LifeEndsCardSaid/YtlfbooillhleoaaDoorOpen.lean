/- A life that comes in by value is five cells: three numbers and two marks. Condition: none. -/
import Derived.Test.YtlfbooillhleoaaDoorProg
import Derived.ProofKit
import Derived.OpenShut
namespace Go.Proofs.YtlfbooillhleoaaDoor
open Go Go.ChangeShapes Go.WideShapes Go.RowKit
theorem life_is {H : Type} {enc : TypeId × Value → H} {W : World} {base : Nat} {v : Value} {d : DataW H} {p : List MemPlace}
    (hv : Value.okWide Tryd.prog W .any base 24 v) (h : DataW.Trod enc Tryd.prog W 0 (fun _ => true) true 24 v d p) :
    ∃ (s a l : Int) (b t : Bool), v = .agg #[.int .i64 s, .int .i64 a, .int .i64 l, .bool b, .bool t] := by
  obtain ⟨cs, rfl, hn⟩ := okWide_struct Tryd.underlying24 hv
  have hc : Tryd.prog.cellsOf 24 = 5 := by kernel_rfl
  rw [hc] at hn
  obtain ⟨fuel, hf⟩ := h
  obtain ⟨xs, m, _, _, _, hx, hfield⟩ := DataW.trod_struct Tryd.underlying24 hf
  have c22 : Tryd.prog.cellsOf 22 = 1 := by kernel_rfl
  have c3 : Tryd.prog.cellsOf 3 = 1 := by kernel_rfl
  have c4 : Tryd.prog.cellsOf 4 = 1 := by kernel_rfl
  obtain ⟨l⟩ := cs
  match l, hn with
  | [x0, x1, x2, x3, x4], _ =>
    obtain ⟨y0, hy0⟩ : ∃ y, xs[0]? = some y := ⟨_, List.getElem?_eq_getElem (by rw [hx]; decide)⟩
    have r0 : DataW.trod enc Tryd.prog W 0 (fun _ => true) true m 22 [x0] = some y0 := by
      have := hfield 0 _ rfl
      rw [hy0] at this
      simpa [Value.cells, c22, c3, c4] using this
    obtain ⟨y1, hy1⟩ : ∃ y, xs[1]? = some y := ⟨_, List.getElem?_eq_getElem (by rw [hx]; decide)⟩
    have r1 : DataW.trod enc Tryd.prog W 0 (fun _ => true) true m 3 [x1] = some y1 := by
      have := hfield 1 _ rfl
      rw [hy1] at this
      simpa [Value.cells, c22, c3, c4] using this
    obtain ⟨y2, hy2⟩ : ∃ y, xs[2]? = some y := ⟨_, List.getElem?_eq_getElem (by rw [hx]; decide)⟩
    have r2 : DataW.trod enc Tryd.prog W 0 (fun _ => true) true m 3 [x2] = some y2 := by
      have := hfield 2 _ rfl
      rw [hy2] at this
      simpa [Value.cells, c22, c3, c4] using this
    obtain ⟨y3, hy3⟩ : ∃ y, xs[3]? = some y := ⟨_, List.getElem?_eq_getElem (by rw [hx]; decide)⟩
    have r3 : DataW.trod enc Tryd.prog W 0 (fun _ => true) true m 4 [x3] = some y3 := by
      have := hfield 3 _ rfl
      rw [hy3] at this
      simpa [Value.cells, c22, c3, c4] using this
    obtain ⟨y4, hy4⟩ : ∃ y, xs[4]? = some y := ⟨_, List.getElem?_eq_getElem (by rw [hx]; decide)⟩
    have r4 : DataW.trod enc Tryd.prog W 0 (fun _ => true) true m 4 [x4] = some y4 := by
      have := hfield 4 _ rfl
      rw [hy4] at this
      simpa [Value.cells, c22, c3, c4] using this
    obtain ⟨s, e0, _, _⟩ := DataW.trod_int Tryd.underlying22 r0
    obtain ⟨a, e1, _, _⟩ := DataW.trod_int Tryd.underlying3 r1
    obtain ⟨l', e2, _, _⟩ := DataW.trod_int Tryd.underlying3 r2
    obtain ⟨b, e3, _⟩ := DataW.trod_bool Tryd.underlying4 r3
    obtain ⟨t, e4, _⟩ := DataW.trod_bool Tryd.underlying4 r4
    simp only [List.cons.injEq, and_true] at e0 e1 e2 e3 e4
    subst e0 e1 e2 e3 e4
    exact ⟨s, a, l', b, t, rfl⟩
end Go.Proofs.YtlfbooillhleoaaDoor
