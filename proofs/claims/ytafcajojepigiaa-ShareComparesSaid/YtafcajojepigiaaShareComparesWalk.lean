/- The Go function ShareCompares, called with any two shares, returns true and leaves all that was there. Condition: none. -/
import Derived.Test.YtafcajojepigiaaAwake
import Derived.Test.YtafcajojepigiaaOpen
import Derived.Test.YtafcajojepigiaaRef
import Derived.Test.YtafcajojepigiaaRows
import Derived.Deep.RegionHeld3
namespace Go.Proofs.Ytafcajojepigiaa
open Go Go.ChangeShapes Go.WideShapes Go.RowKit
set_option maxHeartbeats 4000000 in
theorem shareCompares_walk {H : Type} {enc : TypeId × Value → H} (W : World) (base : Nat) (args : Array Value) (ds : List (DataW H))
    (hval : ∀ (j : Nat) t v, Try.f3.params[j]? = some t → args[j]? = some v → Value.okWide Try.prog W .any base t v)
    (hA : ∃ p, DataW.TrodAll enc Try.prog W 0 (fun _ => true) true Try.f3.params.toList args.toList ds p)
    (_ : (DataW.weightsEach Try.prog (Try.f3.params.toList ++ (OpenSpec.ofChange Rows.shareComparesSpec).bare.plain.varTypes Try.prog) (ds ++ [])).all (· ≤ reachBytes) = true)
    (_ : laidMetH Try.prog Rows.shareComparesRow.laid W) (_ : W.ShapedOpen Try.prog) :
    Calls Try.prog 3 args W fun e W' => e = .returned (.bool true) ∧ Below W.heap.size W W' := by
  obtain ⟨p, hA⟩ := hA
  rw [Try.params3] at hA hval
  obtain ⟨v0, v1, d0, d1, p0, p1, hargs, rfl, rfl, h0, h1⟩ := trodAll_two hA
  subst hargs
  obtain ⟨a, b, rfl, ha, hb⟩ := share_is (hval 0 23 v0 rfl rfl) h0
  obtain ⟨c, d, rfl, hc, hd⟩ := share_is (hval 1 23 v1 rfl rfl) h1
  have K11 := hid (fun w => compare_any a b c d w ha hb hc hd)
  have K12 := hid (fun w => ref_any ((mx0 b + mx0 d).toNat + 1) a b c d w ha hb hc hd (by omega))
  generalize cmpS a b c d = r at *
  clear h0 h1 hval hA ha hb hc hd
  have A0 := hid (show ((W.alloc (.cells #[.int .i64 a, .int .i64 b] 23)).alloc (.cells #[.int .i64 c, .int .i64 d] 23)).heap[W.heap.size]? = some (.cells #[.int .i64 a, .int .i64 b] 23) from (Below.heap_alloc _ _ _ (by simp)).trans (heap_new W _))
  have B0 := hid (show ((W.alloc (.cells #[.int .i64 a, .int .i64 b] 23)).alloc (.cells #[.int .i64 c, .int .i64 d] 23)).heap[W.heap.size + 1]? = some (.cells #[.int .i64 c, .int .i64 d] 23) from by simpa using heap_new (W.alloc (.cells #[.int .i64 a, .int .i64 b] 23)) (.cells #[.int .i64 c, .int .i64 d] 23))
  have g0 := hid (show Below W.heap.size W ((W.alloc (.cells #[.int .i64 a, .int .i64 b] 23)).alloc (.cells #[.int .i64 c, .int .i64 d] 23)) from by go_grown)
  go_enter Try.func3, Try.ntmps3
  go_wp2_with fail
  refine (awake_any _).mono ?_
  rintro _ w1 ⟨rfl, hbb⟩
  have g1 := hid (below_step g0.out g0.out.size hbb)
  have A1 := hid (keep0 hbb A0.out)
  have B1 := hid (keep0 hbb B0.out)
  obtain ⟨cA10, cA11⟩ := two A1.out
  obtain ⟨cB10, cB11⟩ := two B1.out
  clear hbb A0 B0 g0
  go_wp2_with fail
  go_region_held3 (fun w' => w'.cell? ⟨W.heap.size, 0, none⟩ = some (.int .i64 a) ∧ w'.cell? ⟨W.heap.size, 1, none⟩ = some (.int .i64 b) ∧ w'.cell? ⟨W.heap.size + 1, 0, none⟩ = some (.int .i64 c) ∧ w'.cell? ⟨W.heap.size + 1, 1, none⟩ = some (.int .i64 d)) (first | exact ⟨cA10, cA11, cB10, cB11⟩ | exact ⟨cA20, cA21, cB20, cB21⟩ | exact ⟨cA30, cA31, cB30, cB31⟩ | go_keep)
    (first | (go_at_call 11; refine (K11.out _).mono ?_; rintro _ w2 ⟨rfl, hbb⟩; have g2 := hid (below_step g1.out g1.out.size (unD hbb)); have A2 := hid (keep0 (unD hbb) A1.out); have B2 := hid (keep0 (unD hbb) B1.out); obtain ⟨cA20, cA21⟩ := two A2.out; obtain ⟨cB20, cB21⟩ := two B2.out; clear hbb) | (go_at_call 12; refine (K12.out _).mono ?_; rintro _ w3 ⟨rfl, hbb⟩; have g3 := hid (below_step g2.out g2.out.size hbb); have A3 := hid (keep0 hbb A2.out); have B3 := hid (keep0 hbb B2.out); obtain ⟨cA30, cA31⟩ := two A3.out; obtain ⟨cB30, cB31⟩ := two B3.out; clear hbb))
  all_goals go_wp2
  all_goals go_returns
  all_goals exact ⟨by simp, g3.out⟩
end Go.Proofs.Ytafcajojepigiaa
