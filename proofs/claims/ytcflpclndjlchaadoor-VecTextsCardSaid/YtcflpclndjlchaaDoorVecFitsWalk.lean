/- The Go function VecFits, called with any amounts, returns true and leaves all that was there. Condition: none. -/
import Derived.Test.YtcflpclndjlchaaDoorAwake
import Derived.Test.YtcflpclndjlchaaDoorRef
import Derived.Test.YtcflpclndjlchaaDoorRefF
import Derived.Test.YtcflpclndjlchaaDoorRows
import Derived.Deep.RegionHeld3
namespace Go.Proofs.YtcflpclndjlchaaDoor
open Go Go.ChangeShapes Go.WideShapes Go.RowKit
theorem eq4_self (A : Nat → Int) : eq4 (A 0) (A 1) (A 2) (A 3) (A 0) (A 1) (A 2) (A 3) = true := by simp [eq4]
theorem eq4_turn (A B : Nat → Int) : eq4 (A 0) (A 1) (A 2) (A 3) (B 0) (B 1) (B 2) (B 3) = eq4 (B 0) (B 1) (B 2) (B 3) (A 0) (A 1) (A 2) (A 3) := by
  unfold eq4
  rw [Bool.beq_comm (a := A 0), Bool.beq_comm (a := A 1), Bool.beq_comm (a := A 2), Bool.beq_comm (a := A 3)]
theorem fits_l (A B : Nat → Int) : fitsB (mnF A B) A = true ∧ fitsB (mnF A B) B = true := by
  constructor
  · exact (fitsB_iff _ _).2 fun i _ => by unfold mnF; split <;> omega
  · exact (fitsB_iff _ _).2 fun i _ => by unfold mnF; split <;> omega
theorem fits_is {A B : Nat → Int} {b : Bool} (h : fitsB A B = b) (w : World) : Calls Tryd.prog 20 #[.agg #[.int .i64 (A 0), .int .i64 (A 1), .int .i64 (A 2), .int .i64 (A 3)], .agg #[.int .i64 (B 0), .int .i64 (B 1), .int .i64 (B 2), .int .i64 (B 3)]] w fun e w' => e = .returned (.bool b) ∧ Below w.heap.size w w' := by
  rw [← h]
  exact fits_any A B w
set_option maxHeartbeats 4000000 in
theorem vecFits_walk {H : Type} {enc : TypeId × Value → H} (W : World) (base : Nat) (args : Array Value) (ds : List (DataW H))
    (hval : ∀ (j : Nat) t v, Tryd.f4.params[j]? = some t → args[j]? = some v → Value.okWide Tryd.prog W .any base t v)
    (hA : ∃ p, DataW.TrodAll enc Tryd.prog W 0 (fun _ => true) true Tryd.f4.params.toList args.toList ds p) 
    (_ : (DataW.weightsEach Tryd.prog (Tryd.f4.params.toList ++ (OpenSpec.ofChange Rows.vecFitsSpec).bare.plain.varTypes Tryd.prog) (ds ++ [])).all (· ≤ reachBytes) = true)
    (_ : laidMetH Tryd.prog Rows.vecFitsRow.laid W) (_ : W.ShapedOpen Tryd.prog) :
    Calls Tryd.prog 4 args W fun e W' => e = .returned (.bool true) ∧ Below W.heap.size W W' := by
  obtain ⟨p, hA⟩ := hA
  rw [Tryd.params4] at hA hval
  obtain ⟨v0, v1, d0, d1, p0, p1, hargs, rfl, rfl, h0, h1⟩ := trodAll_two hA
  subst hargs
  obtain ⟨A, rfl, _⟩ := vec_is (hval 0 23 v0 rfl rfl) h0
  obtain ⟨B, rfl, _⟩ := vec_is (hval 1 23 v1 rfl rfl) h1
  clear h0 h1 hval hA
  have hE := eq_vec
  have K18 := hid (least_any A B)
  have K19 := hid (rleast_any A B)
  have K20 := hid (fits_any A B)
  have K21 := hid (rfits_any A B)
  have KL := hid (fits_is (fits_l A B).1)
  have KM := hid (fits_is (fits_l A B).2)
  have q1 := eq4_self (mnF A B)
  have q2 : eq4 (mnF A B 0) (mnF A B 1) (mnF A B 2) (mnF A B 3) (A 0) (A 1) (A 2) (A 3) = fitsB A B := eq4_turn (mnF A B) A
  generalize mnF A B = L at *
  generalize fitsB A B = f at *
  have A0 := hid (show ((W.alloc (.cells #[.int .i64 (A 0), .int .i64 (A 1), .int .i64 (A 2), .int .i64 (A 3)] 23)).alloc (.cells #[.int .i64 (B 0), .int .i64 (B 1), .int .i64 (B 2), .int .i64 (B 3)] 23)).heap[W.heap.size]? = some (.cells #[.int .i64 (A 0), .int .i64 (A 1), .int .i64 (A 2), .int .i64 (A 3)] 23) from heapA (heap_new W _))
  have B0 := hid (show ((W.alloc (.cells #[.int .i64 (A 0), .int .i64 (A 1), .int .i64 (A 2), .int .i64 (A 3)] 23)).alloc (.cells #[.int .i64 (B 0), .int .i64 (B 1), .int .i64 (B 2), .int .i64 (B 3)] 23)).heap[W.heap.size + 1]? = some (.cells #[.int .i64 (B 0), .int .i64 (B 1), .int .i64 (B 2), .int .i64 (B 3)] 23) from by simpa using heap_new (W.alloc (.cells #[.int .i64 (A 0), .int .i64 (A 1), .int .i64 (A 2), .int .i64 (A 3)] 23)) (.cells #[.int .i64 (B 0), .int .i64 (B 1), .int .i64 (B 2), .int .i64 (B 3)] 23))
  have g0 := hid (show Below W.heap.size W ((W.alloc (.cells #[.int .i64 (A 0), .int .i64 (A 1), .int .i64 (A 2), .int .i64 (A 3)] 23)).alloc (.cells #[.int .i64 (B 0), .int .i64 (B 1), .int .i64 (B 2), .int .i64 (B 3)] 23)) from by go_grown)
  go_enter Tryd.func4, Tryd.ntmps4
  go_wp2_with fail
  refine (awake_any _).mono ?_
  rintro _ w1 ⟨rfl, hbb⟩
  have g1 := hid (below_step g0.out g0.out.size hbb)
  have A1 := hid (keep0 hbb A0.out)
  have B1 := hid (keep0 hbb B0.out)
  clear hbb A0 B0 g0
  obtain ⟨a10, a11, a12, a13⟩ := four A1.out
  obtain ⟨b10, b11, b12, b13⟩ := four B1.out
  go_wp2_with fail
  refine (K18.out _).mono ?_
  rintro _ w2 ⟨rfl, hbb⟩
  have g2 := hid ((below_step g1.out g1.out.size hbb).alloc (by have := g1.out.size; have := hbb.size; omega) (.cells #[.int .i64 (L 0), .int .i64 (L 1), .int .i64 (L 2), .int .i64 (L 3)] 23))
  have A2 := hid (heapA (o := .cells #[.int .i64 (L 0), .int .i64 (L 1), .int .i64 (L 2), .int .i64 (L 3)] 23) (keep0 hbb A1.out))
  have B2 := hid (heapA (o := .cells #[.int .i64 (L 0), .int .i64 (L 1), .int .i64 (L 2), .int .i64 (L 3)] 23) (keep0 hbb B1.out))
  have L2 := hid (heap_new w2 (.cells #[.int .i64 (L 0), .int .i64 (L 1), .int .i64 (L 2), .int .i64 (L 3)] 23))
  clear hbb a10 a11 a12 a13 b10 b11 b12 b13
  obtain ⟨a20, a21, a22, a23⟩ := four A2.out
  obtain ⟨b20, b21, b22, b23⟩ := four B2.out
  obtain ⟨l20, l21, l22, l23⟩ := four L2.out
  go_wp2_with fail
  go_region_held3 (fun w' => (w'.cell? ⟨W.heap.size, 0, none⟩ = some (.int .i64 (A 0)) ∧ w'.cell? ⟨W.heap.size, 1, none⟩ = some (.int .i64 (A 1)) ∧ w'.cell? ⟨W.heap.size, 2, none⟩ = some (.int .i64 (A 2)) ∧ w'.cell? ⟨W.heap.size, 3, none⟩ = some (.int .i64 (A 3))) ∧ (w'.cell? ⟨W.heap.size + 1, 0, none⟩ = some (.int .i64 (B 0)) ∧ w'.cell? ⟨W.heap.size + 1, 1, none⟩ = some (.int .i64 (B 1)) ∧ w'.cell? ⟨W.heap.size + 1, 2, none⟩ = some (.int .i64 (B 2)) ∧ w'.cell? ⟨W.heap.size + 1, 3, none⟩ = some (.int .i64 (B 3))) ∧ w'.cell? ⟨w2.heap.size, 0, none⟩ = some (.int .i64 (L 0)) ∧ w'.cell? ⟨w2.heap.size, 1, none⟩ = some (.int .i64 (L 1)) ∧ w'.cell? ⟨w2.heap.size, 2, none⟩ = some (.int .i64 (L 2)) ∧ w'.cell? ⟨w2.heap.size, 3, none⟩ = some (.int .i64 (L 3))) (first | exact ⟨⟨a20, a21, a22, a23⟩, ⟨b20, b21, b22, b23⟩, l20, l21, l22, l23⟩ | exact ⟨⟨a30, a31, a32, a33⟩, ⟨b30, b31, b32, b33⟩, l30, l31, l32, l33⟩ | exact ⟨⟨a40, a41, a42, a43⟩, ⟨b40, b41, b42, b43⟩, l40, l41, l42, l43⟩ | exact ⟨⟨a50, a51, a52, a53⟩, ⟨b50, b51, b52, b53⟩, l50, l51, l52, l53⟩ | exact ⟨⟨a60, a61, a62, a63⟩, ⟨b60, b61, b62, b63⟩, l60, l61, l62, l63⟩ | exact ⟨⟨a70, a71, a72, a73⟩, ⟨b70, b71, b72, b73⟩, l70, l71, l72, l73⟩ | exact ⟨⟨a80, a81, a82, a83⟩, ⟨b80, b81, b82, b83⟩, l80, l81, l82, l83⟩ | go_keep) (first | (go_at_call 19; refine (K19.out _).mono ?_; rintro _ w3 ⟨rfl, hbb⟩; have g3 := hid (below_step g2.out g2.out.size (unD hbb)); have A3 := hid (keep0 (unD hbb) A2.out); have B3 := hid (keep0 (unD hbb) B2.out); have L3 := hid (keep0 (unD hbb) L2.out); obtain ⟨a30, a31, a32, a33⟩ := four A3.out; obtain ⟨b30, b31, b32, b33⟩ := four B3.out; obtain ⟨l30, l31, l32, l33⟩ := four L3.out; clear hbb) | (go_at_call 20; refine (K20.out _).mono ?_; rintro _ w4 ⟨rfl, hbb⟩; have g4 := hid (below_step g3.out g3.out.size hbb); have A4 := hid (keep0 hbb A3.out); have B4 := hid (keep0 hbb B3.out); have L4 := hid (keep0 hbb L3.out); obtain ⟨a40, a41, a42, a43⟩ := four A4.out; obtain ⟨b40, b41, b42, b43⟩ := four B4.out; obtain ⟨l40, l41, l42, l43⟩ := four L4.out; clear hbb) | (go_at_call 21; refine (K21.out _).mono ?_; rintro _ w5 ⟨rfl, hbb⟩; have g5 := hid (below_step g4.out g4.out.size hbb); have A5 := hid (keep0 hbb A4.out); have B5 := hid (keep0 hbb B4.out); have L5 := hid (keep0 hbb L4.out); obtain ⟨a50, a51, a52, a53⟩ := four A5.out; obtain ⟨b50, b51, b52, b53⟩ := four B5.out; obtain ⟨l50, l51, l52, l53⟩ := four L5.out; clear hbb) | (go_at_call 20; refine (KL.out _).mono ?_; rintro _ w6 ⟨rfl, hbb⟩; have g6 := hid (below_step g5.out g5.out.size hbb); have A6 := hid (keep0 hbb A5.out); have B6 := hid (keep0 hbb B5.out); have L6 := hid (keep0 hbb L5.out); obtain ⟨a60, a61, a62, a63⟩ := four A6.out; obtain ⟨b60, b61, b62, b63⟩ := four B6.out; obtain ⟨l60, l61, l62, l63⟩ := four L6.out; clear hbb) | (go_at_call 20; refine (KM.out _).mono ?_; rintro _ w7 ⟨rfl, hbb⟩; have g7 := hid (below_step g6.out g6.out.size hbb); have A7 := hid (keep0 hbb A6.out); have B7 := hid (keep0 hbb B6.out); have L7 := hid (keep0 hbb L6.out); obtain ⟨a70, a71, a72, a73⟩ := four A7.out; obtain ⟨b70, b71, b72, b73⟩ := four B7.out; obtain ⟨l70, l71, l72, l73⟩ := four L7.out; clear hbb) | (go_at_call 20; refine (K20.out _).mono ?_; rintro _ w8 ⟨rfl, hbb⟩; have g8 := hid (below_step g7.out g7.out.size hbb); have A8 := hid (keep0 hbb A7.out); have B8 := hid (keep0 hbb B7.out); have L8 := hid (keep0 hbb L7.out); obtain ⟨a80, a81, a82, a83⟩ := four A8.out; obtain ⟨b80, b81, b82, b83⟩ := four B8.out; obtain ⟨l80, l81, l82, l83⟩ := four L8.out; clear hbb))
  all_goals go_wp2
  all_goals go_returns
  all_goals exact ⟨by simp, g8.out⟩
end Go.Proofs.YtcflpclndjlchaaDoor
