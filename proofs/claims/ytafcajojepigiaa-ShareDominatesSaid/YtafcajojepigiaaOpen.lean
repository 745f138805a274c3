/- A share that comes in by value is two numbers of 64 bits. Condition: none. -/
import Derived.Test.YtafcajojepigiaaProg
import Derived.ProofKit
import Derived.OpenShut
namespace Go.Proofs.Ytafcajojepigiaa
open Go Go.ChangeShapes Go.WideShapes Go.RowKit
theorem wf_le {n : Int} (h : (Lit.int .i64 n).wf = true) : -9223372036854775808 ≤ n ∧ n ≤ 9223372036854775807 := by
  simpa [Lit.wf, IntKind.min, IntKind.max, IntKind.signed, IntKind.bits] using h
theorem share_is {H : Type} {enc : TypeId × Value → H} {W : World} {base : Nat} {v : Value} {d : DataW H} {p : List MemPlace}
    (hv : Value.okWide Try.prog W .any base 23 v) (h : DataW.Trod enc Try.prog W 0 (fun _ => true) true 23 v d p) :
    ∃ n k : Int, v = .agg #[.int .i64 n, .int .i64 k] ∧ n ≤ 9223372036854775807 ∧ k ≤ 9223372036854775807 := by
  obtain ⟨cs, rfl, hn⟩ := okWide_struct Try.underlying23 hv
  have hc : Try.prog.cellsOf 23 = 2 := by kernel_rfl
  rw [hc] at hn
  obtain ⟨fuel, hf⟩ := h
  obtain ⟨xs, m, _, _, _, hx, hfield⟩ := DataW.trod_struct Try.underlying23 hf
  have c3 : Try.prog.cellsOf 3 = 1 := by kernel_rfl
  obtain ⟨l⟩ := cs
  match l, hn with
  | [x0, x1], _ =>
    obtain ⟨y0, hy0⟩ : ∃ y, xs[0]? = some y := ⟨_, List.getElem?_eq_getElem (by rw [hx]; decide)⟩
    have r0 : DataW.trod enc Try.prog W 0 (fun _ => true) true m 3 [x0] = some y0 := by
      have := hfield 0 _ rfl
      rw [hy0] at this
      simpa [Value.cells, c3] using this
    obtain ⟨y1, hy1⟩ : ∃ y, xs[1]? = some y := ⟨_, List.getElem?_eq_getElem (by rw [hx]; decide)⟩
    have r1 : DataW.trod enc Try.prog W 0 (fun _ => true) true m 3 [x1] = some y1 := by
      have := hfield 1 _ rfl
      rw [hy1] at this
      simpa [Value.cells, c3] using this
    obtain ⟨n, e0, _, w0⟩ := DataW.trod_int Try.underlying3 r0
    obtain ⟨k, e1, _, w1⟩ := DataW.trod_int Try.underlying3 r1
    simp only [List.cons.injEq, and_true] at e0 e1
    subst e0 e1
    exact ⟨n, k, rfl, (wf_le w0).2, (wf_le w1).2⟩
end Go.Proofs.Ytafcajojepigiaa
