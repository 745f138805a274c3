/- The Go function VecSums, called with any amounts, returns true and leaves all that was there. Condition: none. -/
import Derived.Test.YtcflpclndjlchaaDoorAwake
import Derived.Test.YtcflpclndjlchaaDoorVecFitsWalk
import Derived.Test.YtcflpclndjlchaaDoorRTimes
import Derived.Test.YtcflpclndjlchaaDoorRef
import Derived.Test.YtcflpclndjlchaaDoorRows
import Derived.Deep.RegionHeld3
namespace Go.Proofs.YtcflpclndjlchaaDoor
open Go Go.ChangeShapes Go.WideShapes Go.RowKit
set_option maxRecDepth 100000 in
set_option maxHeartbeats 8000000 in
theorem vecSums_walk {H : Type} {enc : TypeId × Value → H} (W : World) (base : Nat) (args : Array Value) (ds : List (DataW H))
    (hval : ∀ (j : Nat) t v, Tryd.f3.params[j]? = some t → args[j]? = some v → Value.okWide Tryd.prog W .any base t v)
    (hA : ∃ p, DataW.TrodAll enc Tryd.prog W 0 (fun _ => true) true Tryd.f3.params.toList args.toList ds p) 
    (_ : (DataW.weightsEach Tryd.prog (Tryd.f3.params.toList ++ (OpenSpec.ofChange Rows.vecSumsSpec).bare.plain.varTypes Tryd.prog) (ds ++ [])).all (· ≤ reachBytes) = true)
    (_ : laidMetH Tryd.prog Rows.vecSumsRow.laid W) (_ : W.ShapedOpen Tryd.prog) :
    Calls Tryd.prog 3 args W fun e W' => e = .returned (.bool true) ∧ Below W.heap.size W W' := by
  obtain ⟨p, hA⟩ := hA
  rw [Tryd.params3] at hA hval
  obtain ⟨v0, v1, v2, d0, d1, d2, p0, p1, p2, hargs, rfl, rfl, h0, h1, h2⟩ := trodAll_three hA
  subst hargs
  obtain ⟨A, rfl, _⟩ := vec_is (hval 0 23 v0 rfl rfl) h0
  obtain ⟨B, rfl, _⟩ := vec_is (hval 1 23 v1 rfl rfl) h1
  obtain ⟨n, rfl, _, _, wn⟩ := open_int Tryd.underlying3 (hval 2 3 v2 rfl rfl) h2
  obtain ⟨n0, n1⟩ := wf_le wn
  clear h0 h1 h2 hval hA wn
  have hE := eq_vec
  have K10 := hid (add_any A B)
  have K11 := hid (radd_any A B)
  have K12 := hid (sub_any A B)
  have K13 := hid (rsub_any A B)
  have K14 := hid (times_any A n)
  have K15 := hid (rtimes_any A n)
  have K16 := hid (right_any A)
  have K17 := hid (rright_any A)
  have q1 := eq4_self (addF A B).1
  have q2 := eq4_self (subF A B).1
  have q3 := eq4_self (timesF A n).1
  generalize rightB A = r at *
  generalize (addF A B).1 = X at *
  generalize (addF A B).2 = e at *
  generalize (subF A B).1 = Y at *
  generalize (subF A B).2 = f at *
  generalize (timesF A n).1 = Z at *
  generalize (timesF A n).2 = g at *
  have A0 := hid (show ((W.alloc (.cells #[.int .i64 (A 0), .int .i64 (A 1), .int .i64 (A 2), .int .i64 (A 3)] 23)).alloc (.cells #[.int .i64 (B 0), .int .i64 (B 1), .int .i64 (B 2), .int .i64 (B 3)] 23)).heap[W.heap.size]? = some (.cells #[.int .i64 (A 0), .int .i64 (A 1), .int .i64 (A 2), .int .i64 (A 3)] 23) from heapA (heap_new W _))
  have B0 := hid (show ((W.alloc (.cells #[.int .i64 (A 0), .int .i64 (A 1), .int .i64 (A 2), .int .i64 (A 3)] 23)).alloc (.cells #[.int .i64 (B 0), .int .i64 (B 1), .int .i64 (B 2), .int .i64 (B 3)] 23)).heap[W.heap.size + 1]? = some (.cells #[.int .i64 (B 0), .int .i64 (B 1), .int .i64 (B 2), .int .i64 (B 3)] 23) from by simpa using heap_new (W.alloc (.cells #[.int .i64 (A 0), .int .i64 (A 1), .int .i64 (A 2), .int .i64 (A 3)] 23)) (.cells #[.int .i64 (B 0), .int .i64 (B 1), .int .i64 (B 2), .int .i64 (B 3)] 23))
  have g0 := hid (show Below W.heap.size W ((W.alloc (.cells #[.int .i64 (A 0), .int .i64 (A 1), .int .i64 (A 2), .int .i64 (A 3)] 23)).alloc (.cells #[.int .i64 (B 0), .int .i64 (B 1), .int .i64 (B 2), .int .i64 (B 3)] 23)) from by go_grown)
  go_enter Tryd.func3, Tryd.ntmps3
  go_wp2_with fail
  refine (awake_any _).mono ?_
  rintro _ w1 ⟨rfl, hbb⟩
  have g1 := hid (below_step g0.out g0.out.size hbb)
  have A1 := hid (keep0 hbb A0.out)
  have B1 := hid (keep0 hbb B0.out)
  clear hbb A0 B0 g0
  obtain ⟨aa0, aa1, aa2, aa3⟩ := four A1.out
  obtain ⟨bb0, bb1, bb2, bb3⟩ := four B1.out
  go_wp2_with fail
  refine (K10.out _).mono ?_
  rintro _ w2 ⟨rfl, hbb⟩
  have g2 := hid ((below_step g1.out g1.out.size hbb).alloc (by have := g1.out.size; have := hbb.size; go_size) (.cells #[.int .i64 (X 0), .int .i64 (X 1), .int .i64 (X 2), .int .i64 (X 3)] 23))
  have A2 := hid (heapA (o := (.cells #[.int .i64 (X 0), .int .i64 (X 1), .int .i64 (X 2), .int .i64 (X 3)] 23)) (keep0 hbb A1.out))
  have B2 := hid (heapA (o := (.cells #[.int .i64 (X 0), .int .i64 (X 1), .int .i64 (X 2), .int .i64 (X 3)] 23)) (keep0 hbb B1.out))
  have X2 := hid (heap_new w2 (.cells #[.int .i64 (X 0), .int .i64 (X 1), .int .i64 (X 2), .int .i64 (X 3)] 23))
  clear hbb aa0 aa1 aa2 aa3 bb0 bb1 bb2 bb3
  obtain ⟨aa0, aa1, aa2, aa3⟩ := four A2.out
  obtain ⟨bb0, bb1, bb2, bb3⟩ := four B2.out
  go_wp2_with fail
  refine (K11.out _).mono ?_
  rintro _ w3 ⟨rfl, hbb⟩
  have g3 := hid ((below_step g2.out g2.out.size hbb).alloc (by have := g2.out.size; have := hbb.size; go_size) (.cells #[.int .i64 (X 0), .int .i64 (X 1), .int .i64 (X 2), .int .i64 (X 3)] 23))
  have A3 := hid (heapA (o := (.cells #[.int .i64 (X 0), .int .i64 (X 1), .int .i64 (X 2), .int .i64 (X 3)] 23)) (keep0 hbb A2.out))
  have B3 := hid (heapA (o := (.cells #[.int .i64 (X 0), .int .i64 (X 1), .int .i64 (X 2), .int .i64 (X 3)] 23)) (keep0 hbb B2.out))
  have X3 := hid (heapA (o := (.cells #[.int .i64 (X 0), .int .i64 (X 1), .int .i64 (X 2), .int .i64 (X 3)] 23)) (keep0 hbb X2.out))
  have P3 := hid (heap_new w3 (.cells #[.int .i64 (X 0), .int .i64 (X 1), .int .i64 (X 2), .int .i64 (X 3)] 23))
  clear hbb aa0 aa1 aa2 aa3 bb0 bb1 bb2 bb3
  obtain ⟨aa0, aa1, aa2, aa3⟩ := four A3.out
  obtain ⟨bb0, bb1, bb2, bb3⟩ := four B3.out
  go_wp2_with fail
  refine (K12.out _).mono ?_
  rintro _ w4 ⟨rfl, hbb⟩
  have g4 := hid ((below_step g3.out g3.out.size hbb).alloc (by have := g3.out.size; have := hbb.size; go_size) (.cells #[.int .i64 (Y 0), .int .i64 (Y 1), .int .i64 (Y 2), .int .i64 (Y 3)] 23))
  have A4 := hid (heapA (o := (.cells #[.int .i64 (Y 0), .int .i64 (Y 1), .int .i64 (Y 2), .int .i64 (Y 3)] 23)) (keep0 hbb A3.out))
  have B4 := hid (heapA (o := (.cells #[.int .i64 (Y 0), .int .i64 (Y 1), .int .i64 (Y 2), .int .i64 (Y 3)] 23)) (keep0 hbb B3.out))
  have X4 := hid (heapA (o := (.cells #[.int .i64 (Y 0), .int .i64 (Y 1), .int .i64 (Y 2), .int .i64 (Y 3)] 23)) (keep0 hbb X3.out))
  have P4 := hid (heapA (o := (.cells #[.int .i64 (Y 0), .int .i64 (Y 1), .int .i64 (Y 2), .int .i64 (Y 3)] 23)) (keep0 hbb P3.out))
  have Y4 := hid (heap_new w4 (.cells #[.int .i64 (Y 0), .int .i64 (Y 1), .int .i64 (Y 2), .int .i64 (Y 3)] 23))
  clear hbb aa0 aa1 aa2 aa3 bb0 bb1 bb2 bb3
  obtain ⟨aa0, aa1, aa2, aa3⟩ := four A4.out
  obtain ⟨bb0, bb1, bb2, bb3⟩ := four B4.out
  go_wp2_with fail
  refine (K13.out _).mono ?_
  rintro _ w5 ⟨rfl, hbb⟩
  have g5 := hid ((below_step g4.out g4.out.size hbb).alloc (by have := g4.out.size; have := hbb.size; go_size) (.cells #[.int .i64 (Y 0), .int .i64 (Y 1), .int .i64 (Y 2), .int .i64 (Y 3)] 23))
  have A5 := hid (heapA (o := (.cells #[.int .i64 (Y 0), .int .i64 (Y 1), .int .i64 (Y 2), .int .i64 (Y 3)] 23)) (keep0 hbb A4.out))
  have X5 := hid (heapA (o := (.cells #[.int .i64 (Y 0), .int .i64 (Y 1), .int .i64 (Y 2), .int .i64 (Y 3)] 23)) (keep0 hbb X4.out))
  have P5 := hid (heapA (o := (.cells #[.int .i64 (Y 0), .int .i64 (Y 1), .int .i64 (Y 2), .int .i64 (Y 3)] 23)) (keep0 hbb P4.out))
  have Y5 := hid (heapA (o := (.cells #[.int .i64 (Y 0), .int .i64 (Y 1), .int .i64 (Y 2), .int .i64 (Y 3)] 23)) (keep0 hbb Y4.out))
  have Q5 := hid (heap_new w5 (.cells #[.int .i64 (Y 0), .int .i64 (Y 1), .int .i64 (Y 2), .int .i64 (Y 3)] 23))
  clear hbb aa0 aa1 aa2 aa3 bb0 bb1 bb2 bb3
  obtain ⟨aa0, aa1, aa2, aa3⟩ := four A5.out
  go_wp2_with fail
  refine (K14.out _).mono ?_
  rintro _ w6 ⟨rfl, hbb⟩
  have g6 := hid ((below_step g5.out g5.out.size hbb).alloc (by have := g5.out.size; have := hbb.size; go_size) (.cells #[.int .i64 (Z 0), .int .i64 (Z 1), .int .i64 (Z 2), .int .i64 (Z 3)] 23))
  have A6 := hid (heapA (o := (.cells #[.int .i64 (Z 0), .int .i64 (Z 1), .int .i64 (Z 2), .int .i64 (Z 3)] 23)) (keep0 hbb A5.out))
  have X6 := hid (heapA (o := (.cells #[.int .i64 (Z 0), .int .i64 (Z 1), .int .i64 (Z 2), .int .i64 (Z 3)] 23)) (keep0 hbb X5.out))
  have P6 := hid (heapA (o := (.cells #[.int .i64 (Z 0), .int .i64 (Z 1), .int .i64 (Z 2), .int .i64 (Z 3)] 23)) (keep0 hbb P5.out))
  have Y6 := hid (heapA (o := (.cells #[.int .i64 (Z 0), .int .i64 (Z 1), .int .i64 (Z 2), .int .i64 (Z 3)] 23)) (keep0 hbb Y5.out))
  have Q6 := hid (heapA (o := (.cells #[.int .i64 (Z 0), .int .i64 (Z 1), .int .i64 (Z 2), .int .i64 (Z 3)] 23)) (keep0 hbb Q5.out))
  have Z6 := hid (heap_new w6 (.cells #[.int .i64 (Z 0), .int .i64 (Z 1), .int .i64 (Z 2), .int .i64 (Z 3)] 23))
  clear hbb aa0 aa1 aa2 aa3
  obtain ⟨aa0, aa1, aa2, aa3⟩ := four A6.out
  go_wp2_with fail
  refine (K15.out _).mono ?_
  rintro _ w7 ⟨rfl, hbb⟩
  have g7 := hid ((below_step g6.out g6.out.size hbb).alloc (by have := g6.out.size; have := hbb.size; go_size) (.cells #[.int .i64 (Z 0), .int .i64 (Z 1), .int .i64 (Z 2), .int .i64 (Z 3)] 23))
  have A7 := hid (heapA (o := (.cells #[.int .i64 (Z 0), .int .i64 (Z 1), .int .i64 (Z 2), .int .i64 (Z 3)] 23)) (keep0 hbb A6.out))
  have X7 := hid (heapA (o := (.cells #[.int .i64 (Z 0), .int .i64 (Z 1), .int .i64 (Z 2), .int .i64 (Z 3)] 23)) (keep0 hbb X6.out))
  have P7 := hid (heapA (o := (.cells #[.int .i64 (Z 0), .int .i64 (Z 1), .int .i64 (Z 2), .int .i64 (Z 3)] 23)) (keep0 hbb P6.out))
  have Y7 := hid (heapA (o := (.cells #[.int .i64 (Z 0), .int .i64 (Z 1), .int .i64 (Z 2), .int .i64 (Z 3)] 23)) (keep0 hbb Y6.out))
  have Q7 := hid (heapA (o := (.cells #[.int .i64 (Z 0), .int .i64 (Z 1), .int .i64 (Z 2), .int .i64 (Z 3)] 23)) (keep0 hbb Q6.out))
  have Z7 := hid (heapA (o := (.cells #[.int .i64 (Z 0), .int .i64 (Z 1), .int .i64 (Z 2), .int .i64 (Z 3)] 23)) (keep0 hbb Z6.out))
  have R7 := hid (heap_new w7 (.cells #[.int .i64 (Z 0), .int .i64 (Z 1), .int .i64 (Z 2), .int .i64 (Z 3)] 23))
  clear hbb aa0 aa1 aa2 aa3
  obtain ⟨aa0, aa1, aa2, aa3⟩ := four A7.out
  obtain ⟨xx0, xx1, xx2, xx3⟩ := four X7.out
  obtain ⟨pp0, pp1, pp2, pp3⟩ := four P7.out
  obtain ⟨yy0, yy1, yy2, yy3⟩ := four Y7.out
  obtain ⟨qq0, qq1, qq2, qq3⟩ := four Q7.out
  obtain ⟨zz0, zz1, zz2, zz3⟩ := four Z7.out
  obtain ⟨rr0, rr1, rr2, rr3⟩ := four R7.out
  go_wp2_with fail
  go_region_held3 (fun w' => (w'.cell? ⟨W.heap.size, 0, none⟩ = some (.int .i64 (A 0)) ∧ w'.cell? ⟨W.heap.size, 1, none⟩ = some (.int .i64 (A 1)) ∧ w'.cell? ⟨W.heap.size, 2, none⟩ = some (.int .i64 (A 2)) ∧ w'.cell? ⟨W.heap.size, 3, none⟩ = some (.int .i64 (A 3))) ∧ (w'.cell? ⟨w2.heap.size, 0, none⟩ = some (.int .i64 (X 0)) ∧ w'.cell? ⟨w2.heap.size, 1, none⟩ = some (.int .i64 (X 1)) ∧ w'.cell? ⟨w2.heap.size, 2, none⟩ = some (.int .i64 (X 2)) ∧ w'.cell? ⟨w2.heap.size, 3, none⟩ = some (.int .i64 (X 3))) ∧ (w'.cell? ⟨w3.heap.size, 0, none⟩ = some (.int .i64 (X 0)) ∧ w'.cell? ⟨w3.heap.size, 1, none⟩ = some (.int .i64 (X 1)) ∧ w'.cell? ⟨w3.heap.size, 2, none⟩ = some (.int .i64 (X 2)) ∧ w'.cell? ⟨w3.heap.size, 3, none⟩ = some (.int .i64 (X 3))) ∧ (w'.cell? ⟨w4.heap.size, 0, none⟩ = some (.int .i64 (Y 0)) ∧ w'.cell? ⟨w4.heap.size, 1, none⟩ = some (.int .i64 (Y 1)) ∧ w'.cell? ⟨w4.heap.size, 2, none⟩ = some (.int .i64 (Y 2)) ∧ w'.cell? ⟨w4.heap.size, 3, none⟩ = some (.int .i64 (Y 3))) ∧ (w'.cell? ⟨w5.heap.size, 0, none⟩ = some (.int .i64 (Y 0)) ∧ w'.cell? ⟨w5.heap.size, 1, none⟩ = some (.int .i64 (Y 1)) ∧ w'.cell? ⟨w5.heap.size, 2, none⟩ = some (.int .i64 (Y 2)) ∧ w'.cell? ⟨w5.heap.size, 3, none⟩ = some (.int .i64 (Y 3))) ∧ (w'.cell? ⟨w6.heap.size, 0, none⟩ = some (.int .i64 (Z 0)) ∧ w'.cell? ⟨w6.heap.size, 1, none⟩ = some (.int .i64 (Z 1)) ∧ w'.cell? ⟨w6.heap.size, 2, none⟩ = some (.int .i64 (Z 2)) ∧ w'.cell? ⟨w6.heap.size, 3, none⟩ = some (.int .i64 (Z 3))) ∧ (w'.cell? ⟨w7.heap.size, 0, none⟩ = some (.int .i64 (Z 0)) ∧ w'.cell? ⟨w7.heap.size, 1, none⟩ = some (.int .i64 (Z 1)) ∧ w'.cell? ⟨w7.heap.size, 2, none⟩ = some (.int .i64 (Z 2)) ∧ w'.cell? ⟨w7.heap.size, 3, none⟩ = some (.int .i64 (Z 3)))) (first | exact ⟨⟨aa0, aa1, aa2, aa3⟩, ⟨xx0, xx1, xx2, xx3⟩, ⟨pp0, pp1, pp2, pp3⟩, ⟨yy0, yy1, yy2, yy3⟩, ⟨qq0, qq1, qq2, qq3⟩, ⟨zz0, zz1, zz2, zz3⟩, ⟨rr0, rr1, rr2, rr3⟩⟩ | exact ⟨⟨aa0p, aa1p, aa2p, aa3p⟩, ⟨xx0p, xx1p, xx2p, xx3p⟩, ⟨pp0p, pp1p, pp2p, pp3p⟩, ⟨yy0p, yy1p, yy2p, yy3p⟩, ⟨qq0p, qq1p, qq2p, qq3p⟩, ⟨zz0p, zz1p, zz2p, zz3p⟩, ⟨rr0p, rr1p, rr2p, rr3p⟩⟩ | exact ⟨⟨aa0q, aa1q, aa2q, aa3q⟩, ⟨xx0q, xx1q, xx2q, xx3q⟩, ⟨pp0q, pp1q, pp2q, pp3q⟩, ⟨yy0q, yy1q, yy2q, yy3q⟩, ⟨qq0q, qq1q, qq2q, qq3q⟩, ⟨zz0q, zz1q, zz2q, zz3q⟩, ⟨rr0q, rr1q, rr2q, rr3q⟩⟩ | go_keep) (first | (go_at_call 16; refine (K16.out _).mono ?_; rintro _ w8 ⟨rfl, hbb⟩; have g8 := hid (below_step g7.out g7.out.size (unD hbb)); have A8 := hid (keep0 (unD hbb) A7.out); obtain ⟨aa0p, aa1p, aa2p, aa3p⟩ := four A8.out; have X8 := hid (keep0 (unD hbb) X7.out); obtain ⟨xx0p, xx1p, xx2p, xx3p⟩ := four X8.out; have P8 := hid (keep0 (unD hbb) P7.out); obtain ⟨pp0p, pp1p, pp2p, pp3p⟩ := four P8.out; have Y8 := hid (keep0 (unD hbb) Y7.out); obtain ⟨yy0p, yy1p, yy2p, yy3p⟩ := four Y8.out; have Q8 := hid (keep0 (unD hbb) Q7.out); obtain ⟨qq0p, qq1p, qq2p, qq3p⟩ := four Q8.out; have Z8 := hid (keep0 (unD hbb) Z7.out); obtain ⟨zz0p, zz1p, zz2p, zz3p⟩ := four Z8.out; have R8 := hid (keep0 (unD hbb) R7.out); obtain ⟨rr0p, rr1p, rr2p, rr3p⟩ := four R8.out; clear hbb) | (go_at_call 17; refine (K17.out _).mono ?_; rintro _ w9 ⟨rfl, hbb⟩; have g9 := hid (below_step g8.out g8.out.size hbb); have A9 := hid (keep0 hbb A8.out); obtain ⟨aa0q, aa1q, aa2q, aa3q⟩ := four A9.out; have X9 := hid (keep0 hbb X8.out); obtain ⟨xx0q, xx1q, xx2q, xx3q⟩ := four X9.out; have P9 := hid (keep0 hbb P8.out); obtain ⟨pp0q, pp1q, pp2q, pp3q⟩ := four P9.out; have Y9 := hid (keep0 hbb Y8.out); obtain ⟨yy0q, yy1q, yy2q, yy3q⟩ := four Y9.out; have Q9 := hid (keep0 hbb Q8.out); obtain ⟨qq0q, qq1q, qq2q, qq3q⟩ := four Q9.out; have Z9 := hid (keep0 hbb Z8.out); obtain ⟨zz0q, zz1q, zz2q, zz3q⟩ := four Z9.out; have R9 := hid (keep0 hbb R8.out); obtain ⟨rr0q, rr1q, rr2q, rr3q⟩ := four R9.out; clear hbb))
  all_goals go_wp2
  all_goals go_returns
  all_goals exact ⟨by first | rfl | simp, g9.out⟩
end Go.Proofs.YtcflpclndjlchaaDoor
