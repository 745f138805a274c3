/- The Go function VecTexts, called with any amount and text, returns true and leaves all that was there. Condition: the listed tables stand. -/
import Derived.Test.YtcflpclndjlchaaDoorVecBackWalk
import Derived.Test.YtcflpclndjlchaaDoorDigits
import Derived.Test.YtcflpclndjlchaaDoorRRead
import Derived.Deep.RegionHeld3
namespace Go.Proofs.YtcflpclndjlchaaDoor
open Go Go.ChangeShapes Go.WideShapes Go.RowKit
set_option maxRecDepth 100000 in
set_option maxHeartbeats 8000000 in
theorem vecTexts_walk {H : Type} {enc : TypeId × Value → H} (W : World) (base : Nat) (args : Array Value) (ds : List (DataW H))
    (hval : ∀ (j : Nat) t v, Tryd.f5.params[j]? = some t → args[j]? = some v → Value.okWide Tryd.prog W .any base t v)
    (hA : ∃ p, DataW.TrodAll enc Tryd.prog W 0 (fun _ => true) true Tryd.f5.params.toList args.toList ds p) 
    (_ : (DataW.weightsEach Tryd.prog (Tryd.f5.params.toList ++ (OpenSpec.ofChange Rows.vecTextsSpec).bare.plain.varTypes Tryd.prog) (ds ++ [])).all (· ≤ reachBytes) = true)
    (hL : laidMetH Tryd.prog Rows.vecTextsRow.laid W) (hsh : W.ShapedOpen Tryd.prog) :
    Calls Tryd.prog 5 args W fun e W' => e = .returned (.bool true) ∧ Below W.heap.size W W' := by
  obtain ⟨p, hA⟩ := hA
  rw [Tryd.params5] at hA hval
  obtain ⟨v0, v1, d0, d1, p0, p1, hargs, rfl, rfl, h0, h1⟩ := trodAll_two hA
  subst hargs
  obtain ⟨A, rfl, bA⟩ := vec_is (hval 0 23 v0 rfl rfl) h0
  obtain ⟨s, rfl⟩ := okWide_string Tryd.underlying9 (hval 1 9 v1 rfl rfl)
  clear h0 h1 hval hA
  have A0 := hid (heap_new W (.cells #[.int .i64 (A 0), .int .i64 (A 1), .int .i64 (A 2), .int .i64 (A 3)] 23))
  have g0 := hid (show Below W.heap.size W (W.alloc (.cells #[.int .i64 (A 0), .int .i64 (A 1), .int .i64 (A 2), .int .i64 (A 3)] 23)) from by go_grown)
  by_cases hs : s.size ≤ 1000
  · have hs' : ¬ (1000 : Int) < (s.size : Int) := by omega
    have hE := eq_vec
    have KT := hid (fun w hw => text_all A bA (tab_of hL) (W := W) w hw)
    have KU := hid (fun w => rtext_any A bA w)
    have KD := hid (fun w hw => read_all s (by omega) (one_num hsh) (W := W) w hw)
    have KR := hid (fun w => rread_any s w hs)
    rw [read_cut] at KD
    have q1 := eq4_self (readF (cutF s)).1
    generalize (readF (cutF s)).1 = X at *
    generalize (readF (cutF s)).2 = e at *
    generalize (joinS fun i => itoaB (A i)).toArray = R at *
    clear hL hsh bA hs
    go_enter Tryd.func5, Tryd.ntmps5
    go_wp2_with fail
    refine (awake_any _).mono ?_
    rintro _ w1 ⟨rfl, hbb⟩
    have g1 := hid (below_step g0.out g0.out.size hbb)
    have A1 := hid (keep0 hbb A0.out)
    clear hbb A0 g0
    obtain ⟨aa0, aa1, aa2, aa3⟩ := four A1.out
    go_wp2_with fail
    refine (KD.out _ g1.out).mono ?_
    rintro _ w2 ⟨rfl, hbb⟩
    have g2 := hid ((below_step g1.out g1.out.size hbb).alloc (by have := g1.out.size; have := hbb.size; go_size) (.cells #[.int .i64 (X 0), .int .i64 (X 1), .int .i64 (X 2), .int .i64 (X 3)] 23))
    have A2 := hid (heapA (o := (.cells #[.int .i64 (X 0), .int .i64 (X 1), .int .i64 (X 2), .int .i64 (X 3)] 23)) (keep0 hbb A1.out))
    have X2 := hid (heap_new w2 (.cells #[.int .i64 (X 0), .int .i64 (X 1), .int .i64 (X 2), .int .i64 (X 3)] 23))
    clear hbb aa0 aa1 aa2 aa3
    obtain ⟨aa0, aa1, aa2, aa3⟩ := four A2.out
    obtain ⟨xx0, xx1, xx2, xx3⟩ := four X2.out
    go_wp2_with fail
    refine (KR.out _).mono ?_
    rintro _ w3 ⟨rfl, hbb⟩
    have g3 := hid ((below_step g2.out g2.out.size hbb).alloc (by have := g2.out.size; have := hbb.size; go_size) (.cells #[.int .i64 (X 0), .int .i64 (X 1), .int .i64 (X 2), .int .i64 (X 3)] 23))
    have A3 := hid (heapA (o := (.cells #[.int .i64 (X 0), .int .i64 (X 1), .int .i64 (X 2), .int .i64 (X 3)] 23)) (keep0 hbb A2.out))
    have X3 := hid (heapA (o := (.cells #[.int .i64 (X 0), .int .i64 (X 1), .int .i64 (X 2), .int .i64 (X 3)] 23)) (keep0 hbb X2.out))
    have Y3 := hid (heap_new w3 (.cells #[.int .i64 (X 0), .int .i64 (X 1), .int .i64 (X 2), .int .i64 (X 3)] 23))
    clear hbb aa0 aa1 aa2 aa3 xx0 xx1 xx2 xx3
    obtain ⟨aa0, aa1, aa2, aa3⟩ := four A3.out
    obtain ⟨xx0, xx1, xx2, xx3⟩ := four X3.out
    obtain ⟨yy0, yy1, yy2, yy3⟩ := four Y3.out
    go_wp2_with fail
    go_region_held3 (fun w' => (w'.cell? ⟨W.heap.size, 0, none⟩ = some (.int .i64 (A 0)) ∧ w'.cell? ⟨W.heap.size, 1, none⟩ = some (.int .i64 (A 1)) ∧ w'.cell? ⟨W.heap.size, 2, none⟩ = some (.int .i64 (A 2)) ∧ w'.cell? ⟨W.heap.size, 3, none⟩ = some (.int .i64 (A 3))) ∧ (w'.cell? ⟨w2.heap.size, 0, none⟩ = some (.int .i64 (X 0)) ∧ w'.cell? ⟨w2.heap.size, 1, none⟩ = some (.int .i64 (X 1)) ∧ w'.cell? ⟨w2.heap.size, 2, none⟩ = some (.int .i64 (X 2)) ∧ w'.cell? ⟨w2.heap.size, 3, none⟩ = some (.int .i64 (X 3))) ∧ (w'.cell? ⟨w3.heap.size, 0, none⟩ = some (.int .i64 (X 0)) ∧ w'.cell? ⟨w3.heap.size, 1, none⟩ = some (.int .i64 (X 1)) ∧ w'.cell? ⟨w3.heap.size, 2, none⟩ = some (.int .i64 (X 2)) ∧ w'.cell? ⟨w3.heap.size, 3, none⟩ = some (.int .i64 (X 3)))) (first | exact ⟨⟨aa0, aa1, aa2, aa3⟩, ⟨xx0, xx1, xx2, xx3⟩, ⟨yy0, yy1, yy2, yy3⟩⟩ | exact ⟨⟨aa0p, aa1p, aa2p, aa3p⟩, ⟨xx0p, xx1p, xx2p, xx3p⟩, ⟨yy0p, yy1p, yy2p, yy3p⟩⟩ | exact ⟨⟨aa0q, aa1q, aa2q, aa3q⟩, ⟨xx0q, xx1q, xx2q, xx3q⟩, ⟨yy0q, yy1q, yy2q, yy3q⟩⟩ | go_keep) (first | (go_at_call 24; refine (KT.out _ g3.out.drew).mono ?_; rintro _ w4 ⟨rfl, hbb⟩; have g4 := hid (below_step g3.out g3.out.size (unD hbb)); have A4 := hid (keep0 (unD hbb) A3.out); obtain ⟨aa0p, aa1p, aa2p, aa3p⟩ := four A4.out; have X4 := hid (keep0 (unD hbb) X3.out); obtain ⟨xx0p, xx1p, xx2p, xx3p⟩ := four X4.out; have Y4 := hid (keep0 (unD hbb) Y3.out); obtain ⟨yy0p, yy1p, yy2p, yy3p⟩ := four Y4.out; clear hbb) | (go_at_call 25; refine (KU.out _).mono ?_; rintro _ w5 ⟨rfl, hbb⟩; have g5 := hid (below_step g4.out g4.out.size hbb); have A5 := hid (keep0 hbb A4.out); obtain ⟨aa0q, aa1q, aa2q, aa3q⟩ := four A5.out; have X5 := hid (keep0 hbb X4.out); obtain ⟨xx0q, xx1q, xx2q, xx3q⟩ := four X5.out; have Y5 := hid (keep0 hbb Y4.out); obtain ⟨yy0q, yy1q, yy2q, yy3q⟩ := four Y5.out; clear hbb))
    all_goals go_wp2
    all_goals go_returns
    all_goals exact ⟨by first | rfl | simp, g5.out⟩
  · have hs' : (1000 : Int) < (s.size : Int) := by omega
    go_enter Tryd.func5, Tryd.ntmps5
    go_wp2_with fail
    refine (awake_any _).mono ?_
    rintro _ w1 ⟨rfl, hbb⟩
    have g1 := hid (below_step g0.out g0.out.size hbb)
    clear hbb
    go_wp2_with fail
    all_goals go_returns
    all_goals exact ⟨rfl, g1.out⟩
end Go.Proofs.YtcflpclndjlchaaDoor
