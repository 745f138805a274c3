/- How the laws' arguments open: a claim, numbers. Take and Renew without a disk. Conditions: none. -/
import Derived.Test.YthbbempmppnpkaaAwake
import Derived.Lib.SmallJoins
import Derived.OpenShut
import Derived.ProofKit
namespace Go.Proofs.Ythbbempmppnpkaa
open Go Go.Joins Go.ChangeShapes Go.WideShapes Go.RowKit
theorem wf_i64 {n : Int} (h : (Lit.int .i64 n).wf = true) : -9223372036854775808 ≤ n ∧ n ≤ 9223372036854775807 := by
  simpa [Lit.wf, IntKind.min, IntKind.max, IntKind.signed, IntKind.bits] using h
theorem Try.cells23 : Try.prog.cellsOf 23 = 3 := by kernel_rfl
theorem clm_is {H : Type} {enc : TypeId × Value → H} {W : World} {base : Nat} {v : Value} {d : DataW H} {p : List MemPlace}
    (hv : Value.okWide Try.prog W .any base 23 v) (h : DataW.Trod enc Try.prog W 0 (fun _ => true) true 23 v d p) : ∃ c : Clm, v = .agg c.cells ∧ c.ok := by
  obtain ⟨c0, c1, c2, y0, y1, y2, m, rfl, _, _, hy0, hy1, hy2⟩ := open_agg3 Try.underlying23 (by kernel_rfl) Try.cells23 hv h
  obtain ⟨a, e0, _, w0⟩ := DataW.trod_int Try.underlying3 hy0
  obtain ⟨b, e1, _, w1⟩ := DataW.trod_int Try.underlying3 hy1
  obtain ⟨c, e2, _, w2⟩ := DataW.trod_int Try.underlying3 hy2
  simp at e0 e1 e2
  subst e0 e1 e2
  exact ⟨⟨a, b, c⟩, rfl, wf_i64 w0, wf_i64 w1, wf_i64 w2⟩
theorem take_nil (who t : Int) (w : World) : Calls Try.prog 12 #[.pointer none, .int .i64 who, .int .i64 t] w fun e w' => e = .returned (.tuple #[.agg #[.int .i64 0, .int .i64 0, .int .i64 0], .int .i64 1]) ∧ Below w.heap.size w w' := by
  have KT := hid (fun w => istick_any t w)
  generalize tickB t = tk at *
  go_enter Try.func12, Try.ntmps12
  go_wp2_with (go_at_call 24; refine (KT.out _).mono ?_; rintro _ w1 ⟨rfl, rfl⟩)
  all_goals go_returns
  all_goals exact ⟨rfl, by go_grown⟩
theorem renew_nil (c : Clm) (t : Int) (w : World) : Calls Try.prog 15 #[.pointer none, .agg c.cells, .int .i64 t] w fun e w' => e = .returned (.tuple #[.agg #[.int .i64 0, .int .i64 0, .int .i64 0], .int .i64 1]) ∧ Below w.heap.size w w' := by
  have KT := hid (fun w => istick_any t w)
  generalize tickB t = tk at *
  obtain ⟨e, wh, u⟩ := c
  simp only [Clm.cells]
  go_enter Try.func15, Try.ntmps15
  go_wp2_with (go_at_call 24; refine (KT.out _).mono ?_; rintro _ w1 ⟨rfl, rfl⟩)
  all_goals go_returns
  all_goals exact ⟨rfl, by go_grown⟩
end Go.Proofs.Ythbbempmppnpkaa
