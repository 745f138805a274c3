/- The Go function ShareLowest, called with any share, returns true and leaves all that was there. Condition: none. -/
import Derived.Test.YtafcajojepigiaaAwake
import Derived.Test.YtafcajojepigiaaOpen
import Derived.Test.YtafcajojepigiaaRLow
import Derived.Test.YtafcajojepigiaaRows
import Derived.Deep.RegionHeld3
namespace Go.Proofs.Ytafcajojepigiaa
open Go Go.ChangeShapes Go.WideShapes Go.RowKit
set_option maxHeartbeats 4000000 in
theorem shareLowest_walk {H : Type} {enc : TypeId × Value → H} (W : World) (base : Nat) (args : Array Value) (ds : List (DataW H))
    (hval : ∀ (j : Nat) t v, Try.f5.params[j]? = some t → args[j]? = some v → Value.okWide Try.prog W .any base t v)
    (hA : ∃ p, DataW.TrodAll enc Try.prog W 0 (fun _ => true) true Try.f5.params.toList args.toList ds p) 
    (_ : (DataW.weightsEach Try.prog (Try.f5.params.toList ++ (OpenSpec.ofChange Rows.shareLowestSpec).bare.plain.varTypes Try.prog) (ds ++ [])).all (· ≤ reachBytes) = true)
    (_ : laidMetH Try.prog Rows.shareLowestRow.laid W) (_ : W.ShapedOpen Try.prog) :
    Calls Try.prog 5 args W fun e W' => e = .returned (.bool true) ∧ Below W.heap.size W W' := by
  obtain ⟨p, hA⟩ := hA
  rw [Try.params5] at hA hval
  obtain ⟨v0, d0, hargs, rfl, h0⟩ := trodAll_one hA
  subst hargs
  obtain ⟨n, d, rfl, hn, hd⟩ := share_is (hval 0 23 v0 rfl rfl) h0
  have hb := low_bd hn hd
  have K15 := hid (fun w => low_any n d w hn hd)
  have K16 := hid (fun w => rlow_any n d w hn hd)
  have K11 : Hid (∀ w, Calls Try.prog 11 #[.agg #[.int .i64 (lowF n d).1, .int .i64 (lowF n d).2], .agg #[.int .i64 n, .int .i64 d]] w fun e w' => e = .returned (.int .i64 0) ∧ Below w.heap.size w w') := hid (fun w => by
    have h := compare_any (lowF n d).1 (lowF n d).2 n d w hb.1 hb.2 hn hd
    rw [low_same] at h
    exact h)
  have KL : Hid (∀ w, Calls Try.prog 15 #[.agg #[.int .i64 (lowF n d).1, .int .i64 (lowF n d).2]] w fun e w' => e = .returned (.agg #[.int .i64 (lowF n d).1, .int .i64 (lowF n d).2]) ∧ Below w.heap.size w w') := hid (fun w => by
    have h := low_any (lowF n d).1 (lowF n d).2 w hb.1 hb.2
    rw [low_low] at h
    exact h)
  generalize (lowF n d).1 = L1 at *
  generalize (lowF n d).2 = L2 at *
  clear h0 hval hA hn hd hb
  have A0 := hid (heap_new W (.cells #[.int .i64 n, .int .i64 d] 23))
  have g0 := hid (show Below W.heap.size W (W.alloc (.cells #[.int .i64 n, .int .i64 d] 23)) from by go_grown)
  go_enter Try.func5, Try.ntmps5
  go_wp2_with fail
  refine (awake_any _).mono ?_
  rintro _ w1 ⟨rfl, hbb⟩
  have g1 := hid (below_step g0.out g0.out.size hbb)
  have A1 := hid (keep0 hbb A0.out)
  obtain ⟨cA10, cA11⟩ := two A1.out
  clear hbb A0 g0
  go_wp2_with fail
  refine (K15.out _).mono ?_
  rintro _ w2 ⟨rfl, hbb⟩
  have g2 := hid ((below_step g1.out g1.out.size hbb).alloc (by have := g1.out.size; have := hbb.size; omega) (.cells #[.int .i64 L1, .int .i64 L2] 23))
  have A2 := hid ((Below.heap_alloc w2 (.cells #[.int .i64 L1, .int .i64 L2] 23) _ (lt_of (keep0 hbb A1.out))).trans (keep0 hbb A1.out))
  have X2 := hid (heap_new w2 (.cells #[.int .i64 L1, .int .i64 L2] 23))
  obtain ⟨cA20, cA21⟩ := two A2.out
  obtain ⟨cX20, cX21⟩ := two X2.out
  clear hbb cA10 cA11
  go_wp2_with fail
  go_region_held3 (fun w' => w'.cell? ⟨W.heap.size, 0, none⟩ = some (.int .i64 n) ∧ w'.cell? ⟨W.heap.size, 1, none⟩ = some (.int .i64 d) ∧ w'.cell? ⟨w2.heap.size, 0, none⟩ = some (.int .i64 L1) ∧ w'.cell? ⟨w2.heap.size, 1, none⟩ = some (.int .i64 L2)) (first | exact ⟨cA20, cA21, cX20, cX21⟩ | exact ⟨cA30, cA31, cX30, cX31⟩ | exact ⟨cA40, cA41, cX40, cX41⟩ | exact ⟨cA50, cA51, cX50, cX51⟩ | go_keep)
    (first | (go_at_call 16; refine (K16.out _).mono ?_; rintro _ w3 ⟨rfl, hbb⟩; have g3 := hid (below_step g2.out g2.out.size (unD hbb)); have A3 := hid (keep0 (unD hbb) A2.out); have X3 := hid (keep0 (unD hbb) X2.out); obtain ⟨cA30, cA31⟩ := two A3.out; obtain ⟨cX30, cX31⟩ := two X3.out; clear hbb) | (go_at_call 11; refine (K11.out _).mono ?_; rintro _ w4 ⟨rfl, hbb⟩; have g4 := hid (below_step g3.out g3.out.size hbb); have A4 := hid (keep0 hbb A3.out); have X4 := hid (keep0 hbb X3.out); obtain ⟨cA40, cA41⟩ := two A4.out; obtain ⟨cX40, cX41⟩ := two X4.out; clear hbb) | (go_at_call 15; refine (KL.out _).mono ?_; rintro _ w5 ⟨rfl, hbb⟩; have g5 := hid (below_step g4.out g4.out.size hbb); have A5 := hid (keep0 hbb A4.out); have X5 := hid (keep0 hbb X4.out); obtain ⟨cA50, cA51⟩ := two A5.out; obtain ⟨cX50, cX51⟩ := two X5.out; clear hbb))
  all_goals go_wp2
  all_goals go_returns
  all_goals exact ⟨by simp, g5.out⟩
end Go.Proofs.Ytafcajojepigiaa
