/- An amount that comes in by value is four numbers of 64 bits. Condition: none. -/
import Derived.Test.YtafcajojepigiaaOpen
namespace Go.Proofs.Ytafcajojepigiaa
open Go Go.ChangeShapes Go.WideShapes Go.RowKit
theorem okWide_array {P : Program} {w : World} {r : Reach} {base n : Nat} {t e : TypeId} {v : Value} (ht : P.underlying t = some (.array n e)) (h : Value.okWide P w r base t v) : ∃ cs, v = .agg cs ∧ cs.size = P.cellsOf t := by
  simp only [Value.okWide, ht] at h
  obtain ⟨cs, h1, h2, _⟩ := h
  exact ⟨cs, h1, h2⟩
theorem vec_is {H : Type} {enc : TypeId × Value → H} {W : World} {base : Nat} {v : Value} {d : DataW H} {p : List MemPlace}
    (hv : Value.okWide Try.prog W .any base 28 v) (h : DataW.Trod enc Try.prog W 0 (fun _ => true) true 28 v d p) :
    ∃ N : Nat → Int, v = .agg #[.int .i64 (N 0), .int .i64 (N 1), .int .i64 (N 2), .int .i64 (N 3)] ∧ ∀ i, N i ≤ 9223372036854775807 ∧ -9223372036854775808 ≤ N i := by
  obtain ⟨cs, rfl, hn⟩ := okWide_array Try.underlying28 hv
  have hc : Try.prog.cellsOf 28 = 4 := by kernel_rfl
  rw [hc] at hn
  obtain ⟨fuel, hf⟩ := h
  obtain ⟨xs, m, _, _, _, hx, hfield⟩ := DataW.trod_array Try.underlying28 hf
  have c3 : Try.prog.cellsOf 3 = 1 := by kernel_rfl
  obtain ⟨l⟩ := cs
  match l, hn with
  | [x0, x1, x2, x3], _ =>
    have key : ∀ i (x : Value), i < 4 → ([x0, x1, x2, x3].drop (i * 1)).take 1 = [x] → ∃ n : Int, x = .int .i64 n ∧ n ≤ 9223372036854775807 ∧ -9223372036854775808 ≤ n := by
      intro i x hi hx'
      have hf' := hfield i hi
      rw [c3] at hf'
      simp only [Value.cells] at hf'
      obtain ⟨y, hy⟩ : ∃ y, xs[i]? = some y := ⟨_, List.getElem?_eq_getElem (by rw [hx]; exact hi)⟩
      rw [hy, hx'] at hf'
      obtain ⟨n, e0, _, w0⟩ := DataW.trod_int Try.underlying3 hf'
      simp only [List.cons.injEq, and_true] at e0
      exact ⟨n, e0, (wf_le w0).2, (wf_le w0).1⟩
    obtain ⟨n0, rfl, a0, b0⟩ := key 0 x0 (by decide) rfl
    obtain ⟨n1, rfl, a1, b1⟩ := key 1 x1 (by decide) rfl
    obtain ⟨n2, rfl, a2, b2⟩ := key 2 x2 (by decide) rfl
    obtain ⟨n3, rfl, a3, b3⟩ := key 3 x3 (by decide) rfl
    refine ⟨fun i => match i with | 0 => n0 | 1 => n1 | 2 => n2 | _ => n3, rfl, fun i => ?_⟩
    match i with
    | 0 => exact ⟨a0, b0⟩
    | 1 => exact ⟨a1, b1⟩
    | 2 => exact ⟨a2, b2⟩
    | _ + 3 => exact ⟨a3, b3⟩
end Go.Proofs.Ytafcajojepigiaa
