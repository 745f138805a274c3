/- The Go function ShareDominates, called with any two amounts, returns true and leaves all that was there. Condition: none. -/
import Derived.Test.YtafcajojepigiaaAwake
import Derived.Test.YtafcajojepigiaaVec
import Derived.Test.YtafcajojepigiaaRDom
import Derived.Test.YtafcajojepigiaaShareGrowsWalk
import Derived.Test.YtafcajojepigiaaRows
namespace Go.Proofs.Ytafcajojepigiaa
open Go Go.ChangeShapes Go.WideShapes Go.RowKit
set_option maxHeartbeats 4000000 in
theorem shareDominates_walk {H : Type} {enc : TypeId × Value → H} (W : World) (base : Nat) (args : Array Value) (ds : List (DataW H))
    (hval : ∀ (j : Nat) t v, Try.f4.params[j]? = some t → args[j]? = some v → Value.okWide Try.prog W .any base t v)
    (hA : ∃ p, DataW.TrodAll enc Try.prog W 0 (fun _ => true) true Try.f4.params.toList args.toList ds p) 
    (_ : (DataW.weightsEach Try.prog (Try.f4.params.toList ++ (OpenSpec.ofChange Rows.shareDominatesSpec).bare.plain.varTypes Try.prog) (ds ++ [])).all (· ≤ reachBytes) = true)
    (_ : laidMetH Try.prog Rows.shareDominatesRow.laid W) (_ : W.ShapedOpen Try.prog) :
    Calls Try.prog 4 args W fun e W' => e = .returned (.bool true) ∧ Below W.heap.size W W' := by
  obtain ⟨p, hA⟩ := hA
  rw [Try.params4] at hA hval
  obtain ⟨v0, v1, d0, d1, p0, p1, hargs, rfl, rfl, h0, h1⟩ := trodAll_two hA
  subst hargs
  obtain ⟨H, rfl, hH⟩ := vec_is (hval 0 28 v0 rfl rfl) h0
  obtain ⟨G, rfl, hG⟩ := vec_is (hval 1 28 v1 rfl rfl) h1
  clear h0 h1 hval hA
  have bH : ∀ i, H i ≤ 9223372036854775807 := fun i => (hH i).1
  have bG : ∀ i, G i ≤ 9223372036854775807 := fun i => (hG i).1
  have K1 := hid (fun w => dom_any H G w (fun i _ => bH i) (fun i _ => bG i) KCmp)
  have K2 := hid (fun w => rdom_any H G w bH bG)
  generalize domF H G 4 = z at *
  generalize mx0 (H z) = s at *
  generalize mx0 (G z) = e at *
  clear hH hG bH bG
  have A0 := hid (show ((W.alloc (.cells #[.int .i64 (H 0), .int .i64 (H 1), .int .i64 (H 2), .int .i64 (H 3)] 28)).alloc (.cells #[.int .i64 (G 0), .int .i64 (G 1), .int .i64 (G 2), .int .i64 (G 3)] 28)).heap[W.heap.size]? = some (.cells #[.int .i64 (H 0), .int .i64 (H 1), .int .i64 (H 2), .int .i64 (H 3)] 28) from heapA (heap_new W _))
  have B0 := hid (show ((W.alloc (.cells #[.int .i64 (H 0), .int .i64 (H 1), .int .i64 (H 2), .int .i64 (H 3)] 28)).alloc (.cells #[.int .i64 (G 0), .int .i64 (G 1), .int .i64 (G 2), .int .i64 (G 3)] 28)).heap[W.heap.size + 1]? = some (.cells #[.int .i64 (G 0), .int .i64 (G 1), .int .i64 (G 2), .int .i64 (G 3)] 28) from by simpa using heap_new (W.alloc (.cells #[.int .i64 (H 0), .int .i64 (H 1), .int .i64 (H 2), .int .i64 (H 3)] 28)) (.cells #[.int .i64 (G 0), .int .i64 (G 1), .int .i64 (G 2), .int .i64 (G 3)] 28))
  have g0 := hid (show Below W.heap.size W ((W.alloc (.cells #[.int .i64 (H 0), .int .i64 (H 1), .int .i64 (H 2), .int .i64 (H 3)] 28)).alloc (.cells #[.int .i64 (G 0), .int .i64 (G 1), .int .i64 (G 2), .int .i64 (G 3)] 28)) from by go_grown)
  go_enter Try.func4, Try.ntmps4
  go_wp2_with fail
  refine (awake_any _).mono ?_
  rintro _ w1 ⟨rfl, hbb⟩
  have g1 := hid (below_step g0.out g0.out.size hbb)
  have A1 := hid (keep0 hbb A0.out)
  have B1 := hid (keep0 hbb B0.out)
  clear hbb A0 B0 g0
  obtain ⟨a0, a1, a2, a3⟩ := four A1.out
  obtain ⟨b0, b1, b2, b3⟩ := four B1.out
  go_wp2_with fail
  refine (K1.out _).mono ?_
  rintro _ w2 ⟨rfl, hbb⟩
  have g2 := hid (below_step g1.out g1.out.size hbb)
  have A2 := hid (keep0 hbb A1.out)
  have B2 := hid (keep0 hbb B1.out)
  clear hbb a0 a1 a2 a3 b0 b1 b2 b3
  have zA := lt_of A2.out
  have zB := lt_of B2.out
  obtain ⟨a0, a1, a2, a3⟩ := four A2.out
  obtain ⟨b0, b1, b2, b3⟩ := four B2.out
  go_wp2_with fail
  refine (K2.out _).mono ?_
  rintro _ w3 ⟨rfl, hbb⟩
  have g3 := hid ((below_step (g2.out.alloc g2.out.size (.cells #[.int .i64 s, .int .i64 e] 23)) (by have := g2.out.size; go_size) hbb).alloc (by have := g2.out.size; have := hbb.size; simp at this; omega) (.cells #[.int .i64 s, .int .i64 e] 23))
  have S3 := newA hbb
  have zS := lt_of S3
  clear hbb a0 a1 a2 a3 b0 b1 b2 b3
  obtain ⟨c0, c1⟩ := two S3
  go_wp2_with fail
  all_goals go_returns
  all_goals exact ⟨by first | rfl | simp, g3.out⟩
end Go.Proofs.Ytafcajojepigiaa
