/- The Go function LifeNexts, called with any life and any sign, returns true and leaves all that was there. Condition: the two package-level tables of life stand as the row lists them. -/
import Derived.Test.YtlfbooillhleoaaDoorKeep
import Derived.Test.YtlfbooillhleoaaDoorSpec
import Derived.Test.YtlfbooillhleoaaDoorRows
import Derived.Test.YtlfbooillhleoaaDoorTab
import Derived.Test.YtlfbooillhleoaaDoorOpen
import Derived.ProofKit
namespace Go.Proofs.YtlfbooillhleoaaDoor
open Go Go.ChangeShapes Go.WideShapes Go.RowKit
set_option maxHeartbeats 1000000 in
theorem lifeNexts_walk {H : Type} {enc : TypeId × Value → H} (W : World) (base : Nat) (args : Array Value) (ds : List (DataW H))
    (hval : ∀ (j : Nat) t v, Tryd.f3.params[j]? = some t → args[j]? = some v → Value.okWide Tryd.prog W .any base t v)
    (hA : ∃ p, DataW.TrodAll enc Tryd.prog W 0 (fun _ => true) true Tryd.f3.params.toList args.toList ds p)
    (_ : (DataW.weightsEach Tryd.prog (Tryd.f3.params.toList ++ (OpenSpec.ofChange Rows.lifeNextsSpec).bare.plain.varTypes Tryd.prog) (ds ++ [])).all (· ≤ reachBytes) = true)
    (hL : laidMetH Tryd.prog Rows.lifeNextsRow.laid W) (_ : W.ShapedOpen Tryd.prog) :
    Calls Tryd.prog 3 args W fun e W' => e = .returned (.bool true) ∧ Below W.heap.size W W' := by
  have hT : Tab W := tab_of hL
  obtain ⟨p, hA⟩ := hA
  rw [Tryd.params3] at hA hval
  obtain ⟨v0, v1, d0, d1, p0, p1, hargs, rfl, rfl, h0, h1⟩ := trodAll_two hA
  subst hargs
  obtain ⟨s, a, l, b, t, rfl⟩ := life_is (hval 0 24 v0 rfl rfl) h0
  obtain ⟨sg, rfl, _, _, wg⟩ := open_int Tryd.underlying25 (hval 1 25 v1 rfl rfl) h1
  clear hval h1 hL hA h0
  generalize hr : nextF s a l b t sg = r
  obtain ⟨s', a', l', b', t', e'⟩ := r
  have k10 : ∀ w, Below W.heap.size W w → Calls Tryd.prog 10 #[.agg #[.int .i64 s, .int .i64 a, .int .i64 l, .bool b, .bool t], .int .i64 sg] w fun e w' => e = .returned (.tuple #[.agg #[.int .i64 s', .int .i64 a', .int .i64 l', .bool b', .bool t'], .int .i64 e']) ∧ Below w.heap.size w w' := fun w hw => by
    have := next_any s a l b t sg w (hT.below hw)
    rw [hr] at this
    exact this
  have k11 : ∀ w, Calls Tryd.prog 11 #[.agg #[.int .i64 s, .int .i64 a, .int .i64 l, .bool b, .bool t], .int .i64 sg] w fun e w' => e = .returned (.tuple #[.agg #[.int .i64 s', .int .i64 a', .int .i64 l', .bool b', .bool t'], .int .i64 e']) ∧ Below w.heap.size w w' := fun w => by
    have := rnext_any s a l b t sg w
    rw [hr] at this
    exact this
  have K10 := hid k10
  have K11 := hid k11
  have hTT := hid hT
  clear hr k10 k11 hT
  have hT := hTT.out
  have k9 : ∀ w, Below W.heap.size W w → Calls Tryd.prog 9 #[] w fun e w' => e = .returned (.bool true) ∧ Below w.heap.size w w' := fun w hw => awake_any w (hT.below hw)
  have K9 := hid k9
  clear k9 hT hTT
  go_enter Tryd.func3, Tryd.ntmps3
  go_wp2_with (first | (go_at_call 9; refine (K9.out _ (by go_grown)).mono ?_; rintro e w1 ⟨rfl, hb1⟩; have hg1 := below_step (B := W.heap.size) (w := W) (by go_grown) (by go_size) hb1; have L1 := newA hb1; obtain ⟨cL10, cL11, cL12, cL13, cL14⟩ := five L1; have HL1 := hid L1; clear L1 hb1) | (go_at_call 10; refine (K10.out _ (by go_grown)).mono ?_; rintro e w2 ⟨rfl, hb2⟩; have hg2 := below_step (B := W.heap.size) (w := W) (by go_grown) (by have := hg1.size; go_size) hb2; have L2 := keep0 hb2 HL1.out; obtain ⟨cL20, cL21, cL22, cL23, cL24⟩ := five L2; have zL2 := lt_of L2; clear L2 hb2) | (go_at_call 11; refine (K11.out _).mono ?_; rintro e w3 ⟨rfl, hb3⟩; have hg3 := below_step (B := W.heap.size) (w := W) (by go_grown) (by have := hg2.size; go_size) hb3; have X3 := newA hb3; obtain ⟨cX0, cX1, cX2, cX3, cX4⟩ := five X3; have zX := lt_of X3; clear X3 hb3))
  all_goals go_returns
  all_goals exact ⟨by simp, by go_grown⟩
end Go.Proofs.YtlfbooillhleoaaDoor
