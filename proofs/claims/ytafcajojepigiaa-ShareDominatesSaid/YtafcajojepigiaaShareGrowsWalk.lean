/- The Go function ShareGrows, called with any three amounts, returns true and leaves all that was there. Condition: none. -/
import Derived.Test.YtafcajojepigiaaAwake
import Derived.Test.YtafcajojepigiaaVec
import Derived.Test.YtafcajojepigiaaGrowMath
import Derived.Test.YtafcajojepigiaaRows
import Derived.Deep.RegionHeld3
namespace Go.Proofs.Ytafcajojepigiaa
open Go Go.ChangeShapes Go.WideShapes Go.RowKit
theorem four {w : World} {B : Nat} {a0 a1 a2 a3 : Value} {T : TypeId} (h : w.heap[B]? = some (.cells #[a0, a1, a2, a3] T (0, 0))) : w.cell? ⟨B, 0, none⟩ = some a0 ∧ w.cell? ⟨B, 1, none⟩ = some a1 ∧ w.cell? ⟨B, 2, none⟩ = some a2 ∧ w.cell? ⟨B, 3, none⟩ = some a3 := by
  refine ⟨?_, ?_, ?_, ?_⟩
  · rw [cell_of h 0]; rfl
  · rw [cell_of h 1]; rfl
  · rw [cell_of h 2]; rfl
  · rw [cell_of h 3]; rfl
theorem arr_set {w : World} {B k : Nat} {F : Nat → Int} (hk : k < 4) (h : w.heap[B]? = some (.cells (gcells F k) 28 (0, 0))) (v : Value) (hv : v = .int .i64 (F k)) : (w.setCell ⟨B, k, none⟩ v).heap[B]? = some (.cells (gcells F (k + 1)) 28 (0, 0)) := by
  subst hv
  have h0 := heap_setCell_same w B k _ 28 (.int .i64 (F k)) h
  rw [gcells_step F k hk] at h0
  exact h0
set_option maxRecDepth 100000 in
set_option maxHeartbeats 4000000 in
theorem shareGrows_walk {H : Type} {enc : TypeId × Value → H} (W : World) (base : Nat) (args : Array Value) (ds : List (DataW H))
    (hval : ∀ (j : Nat) t v, Try.f9.params[j]? = some t → args[j]? = some v → Value.okWide Try.prog W .any base t v)
    (hA : ∃ p, DataW.TrodAll enc Try.prog W 0 (fun _ => true) true Try.f9.params.toList args.toList ds p) 
    (_ : (DataW.weightsEach Try.prog (Try.f9.params.toList ++ (OpenSpec.ofChange Rows.shareGrowsSpec).bare.plain.varTypes Try.prog) (ds ++ [])).all (· ≤ reachBytes) = true)
    (_ : laidMetH Try.prog Rows.shareGrowsRow.laid W) (_ : W.ShapedOpen Try.prog) :
    Calls Try.prog 9 args W fun e W' => e = .returned (.bool true) ∧ Below W.heap.size W W' := by
  obtain ⟨p, hA⟩ := hA
  rw [Try.params9] at hA hval
  obtain ⟨v0, v1, v2, d0, d1, d2, p0, p1, p2, hargs, rfl, rfl, h0, h1, h2⟩ := trodAll_three hA
  subst hargs
  obtain ⟨H, rfl, hH⟩ := vec_is (hval 0 28 v0 rfl rfl) h0
  obtain ⟨M, rfl, hM⟩ := vec_is (hval 1 28 v1 rfl rfl) h1
  obtain ⟨G, rfl, hG⟩ := vec_is (hval 2 28 v2 rfl rfl) h2
  clear h0 h1 h2 hval hA
  have bH : ∀ i, H i ≤ 9223372036854775807 := fun i => (hH i).1
  have bM : ∀ i, M i ≤ 9223372036854775807 := fun i => (hM i).1
  have bG : ∀ i, G i ≤ 9223372036854775807 := fun i => (hG i).1
  have K1 := hid (fun w => dom_any H G w (fun i _ => bH i) (fun i _ => bG i) KCmp)
  have K2 := hid (fun w => dom_any (mxF H M) G w (fun i _ => mxF_bd bH bM i) (fun i _ => bG i) KCmp)
  have K3 := hid (fun w => dom_any H (mnF G M) w (fun i _ => bH i) (fun i _ => mnF_bd bG i) KCmp)
  have K4 := hid (fun w => compare_any (mx0 (mxF H M (domF (mxF H M) G 4))) (mx0 (G (domF (mxF H M) G 4))) (mx0 (H (domF H G 4))) (mx0 (G (domF H G 4))) w (mx0_bd _ (mxF_bd bH bM _)) (mx0_bd _ (bG _)) (mx0_bd _ (bH _)) (mx0_bd _ (bG _)))
  have K5 := hid (fun w => compare_any (mx0 (H (domF H (mnF G M) 4))) (mx0 (mnF G M (domF H (mnF G M) 4))) (mx0 (H (domF H G 4))) (mx0 (G (domF H G 4))) w (mx0_bd _ (bH _)) (mx0_bd _ (mnF_bd bG _)) (mx0_bd _ (bH _)) (mx0_bd _ (bG _)))
  have c4 := grows_num H M G
  have c5 := grows_den H M G
  generalize cmpS (mx0 (mxF H M (domF (mxF H M) G 4))) (mx0 (G (domF (mxF H M) G 4))) (mx0 (H (domF H G 4))) (mx0 (G (domF H G 4))) = r4 at *
  generalize cmpS (mx0 (H (domF H (mnF G M) 4))) (mx0 (mnF G M (domF H (mnF G M) 4))) (mx0 (H (domF H G 4))) (mx0 (G (domF H G 4))) = r5 at *
  generalize (domF (mxF H M) G 4) = z2 at *
  generalize (domF H (mnF G M) 4) = z3 at *
  generalize (domF H G 4) = z1 at *
  generalize mx0 (mxF H M z2) = s2 at *
  generalize mx0 (G z2) = e2 at *
  generalize mx0 (H z3) = s3 at *
  generalize mx0 (mnF G M z3) = e3 at *
  generalize mx0 (H z1) = s1 at *
  generalize mx0 (G z1) = e1 at *
  clear hH hM hG bH bM bG
  have A0 := hid (show (((W.alloc (.cells #[.int .i64 (H 0), .int .i64 (H 1), .int .i64 (H 2), .int .i64 (H 3)] 28)).alloc (.cells #[.int .i64 (M 0), .int .i64 (M 1), .int .i64 (M 2), .int .i64 (M 3)] 28)).alloc (.cells #[.int .i64 (G 0), .int .i64 (G 1), .int .i64 (G 2), .int .i64 (G 3)] 28)).heap[W.heap.size]? = some (.cells #[.int .i64 (H 0), .int .i64 (H 1), .int .i64 (H 2), .int .i64 (H 3)] 28) from by
    rw [Below.heap_alloc _ _ _ (by simp; omega), Below.heap_alloc _ _ _ (by simp)]
    exact heap_new W _)
  have B0 := hid (show (((W.alloc (.cells #[.int .i64 (H 0), .int .i64 (H 1), .int .i64 (H 2), .int .i64 (H 3)] 28)).alloc (.cells #[.int .i64 (M 0), .int .i64 (M 1), .int .i64 (M 2), .int .i64 (M 3)] 28)).alloc (.cells #[.int .i64 (G 0), .int .i64 (G 1), .int .i64 (G 2), .int .i64 (G 3)] 28)).heap[W.heap.size + 1]? = some (.cells #[.int .i64 (M 0), .int .i64 (M 1), .int .i64 (M 2), .int .i64 (M 3)] 28) from by
    rw [Below.heap_alloc _ _ _ (by simp)]
    simpa using heap_new (W.alloc (.cells #[.int .i64 (H 0), .int .i64 (H 1), .int .i64 (H 2), .int .i64 (H 3)] 28)) (.cells #[.int .i64 (M 0), .int .i64 (M 1), .int .i64 (M 2), .int .i64 (M 3)] 28))
  have C0 := hid (show (((W.alloc (.cells #[.int .i64 (H 0), .int .i64 (H 1), .int .i64 (H 2), .int .i64 (H 3)] 28)).alloc (.cells #[.int .i64 (M 0), .int .i64 (M 1), .int .i64 (M 2), .int .i64 (M 3)] 28)).alloc (.cells #[.int .i64 (G 0), .int .i64 (G 1), .int .i64 (G 2), .int .i64 (G 3)] 28)).heap[W.heap.size + 1 + 1]? = some (.cells #[.int .i64 (G 0), .int .i64 (G 1), .int .i64 (G 2), .int .i64 (G 3)] 28) from by
    simpa using heap_new ((W.alloc (.cells #[.int .i64 (H 0), .int .i64 (H 1), .int .i64 (H 2), .int .i64 (H 3)] 28)).alloc (.cells #[.int .i64 (M 0), .int .i64 (M 1), .int .i64 (M 2), .int .i64 (M 3)] 28)) (.cells #[.int .i64 (G 0), .int .i64 (G 1), .int .i64 (G 2), .int .i64 (G 3)] 28))
  have g0 := hid (show Below W.heap.size W (((W.alloc (.cells #[.int .i64 (H 0), .int .i64 (H 1), .int .i64 (H 2), .int .i64 (H 3)] 28)).alloc (.cells #[.int .i64 (M 0), .int .i64 (M 1), .int .i64 (M 2), .int .i64 (M 3)] 28)).alloc (.cells #[.int .i64 (G 0), .int .i64 (G 1), .int .i64 (G 2), .int .i64 (G 3)] 28)) from by go_grown)
  go_enter Try.func9, Try.ntmps9
  go_wp2_with fail
  refine (awake_any _).mono ?_
  rintro _ w1 ⟨rfl, hbb⟩
  have g1 := hid (below_step g0.out g0.out.size hbb)
  have A1 := hid (keep0 hbb A0.out)
  have B1 := hid (keep0 hbb B0.out)
  have C1 := hid (keep0 hbb C0.out)
  clear hbb A0 B0 C0 g0
  go_wp2_with fail
  go_loopw [10] (fun i wr => ∃ k : Nat, k ≤ 4 ∧ i = .int .i64 k ∧ Below W.heap.size W wr ∧ wr.heap[W.heap.size]? = some (.cells #[.int .i64 (H 0), .int .i64 (H 1), .int .i64 (H 2), .int .i64 (H 3)] 28 (0, 0)) ∧ wr.heap[W.heap.size + 1]? = some (.cells #[.int .i64 (M 0), .int .i64 (M 1), .int .i64 (M 2), .int .i64 (M 3)] 28 (0, 0)) ∧ wr.heap[W.heap.size + 1 + 1]? = some (.cells #[.int .i64 (G 0), .int .i64 (G 1), .int .i64 (G 2), .int .i64 (G 3)] 28 (0, 0)) ∧ wr.heap[w1.heap.size]? = some (.cells (gcells (mxF H M) k) 28 (0, 0)) ∧ wr.heap[w1.heap.size + 1]? = some (.cells (gcells (mnF G M) k) 28 (0, 0))) (fun i _ => 4 - (intOf i).toNat)
  case atStart =>
    have zA := lt_of A1.out
    have zB := lt_of B1.out
    have zC := lt_of C1.out
    refine ⟨0, by omega, rfl, by have := g1.out; have := g1.out.size; go_grown, ?_, ?_, ?_, ?_, ?_⟩
    · exact (Below.heap_alloc _ _ _ (by simp; omega)).trans ((Below.heap_alloc _ _ _ zA).trans A1.out)
    · exact (Below.heap_alloc _ _ _ (by simp; omega)).trans ((Below.heap_alloc _ _ _ zB).trans B1.out)
    · exact (Below.heap_alloc _ _ _ (by simp; omega)).trans ((Below.heap_alloc _ _ _ zC).trans C1.out)
    · exact (Below.heap_alloc _ _ _ (by simp)).trans (heap_new w1 _)
    · rw [gcells_zero]
      simpa using heap_new (w1.alloc (.cells #[.int .i64 0, .int .i64 0, .int .i64 0, .int .i64 0] 28)) (.cells #[.int .i64 0, .int .i64 0, .int .i64 0, .int .i64 0] 28)
  case round =>
    obtain ⟨k, hk, rfl, hg, hA, hB, hC, hX, hY⟩ := hrel
    have zW1 := hid (show W.heap.size + 1 + 1 < w1.heap.size from lt_of C1.out)
    have G1 := hid hg
    have HA := hid hA
    have HB := hid hB
    have HC := hid hC
    have HX := hid hX
    have HY := hid hY
    clear hg hA hB hC hX hY
    by_cases h4 : k < 4
    · have h4' : (k : Int) < 4 := by omega
      have cA := (cell_of HA.out k).trans (vec_at H k h4)
      have cB := (cell_of HB.out k).trans (vec_at M k h4)
      have cX : wr.cell? ⟨w1.heap.size, k, none⟩ = some (.int .i64 (garr (mxF H M) k k)) := (cell_of HX.out k).trans (vec_at (garr (mxF H M) k) k h4)
      have fX := free_of HX.out k
      go_upto_region 9 with fail
      go_cut [] (fun wx => Below W.heap.size W wx ∧ wx.heap[W.heap.size]? = some (.cells #[.int .i64 (H 0), .int .i64 (H 1), .int .i64 (H 2), .int .i64 (H 3)] 28 (0, 0)) ∧ wx.heap[W.heap.size + 1]? = some (.cells #[.int .i64 (M 0), .int .i64 (M 1), .int .i64 (M 2), .int .i64 (M 3)] 28 (0, 0)) ∧ wx.heap[W.heap.size + 1 + 1]? = some (.cells #[.int .i64 (G 0), .int .i64 (G 1), .int .i64 (G 2), .int .i64 (G 3)] 28 (0, 0)) ∧ wx.heap[w1.heap.size]? = some (.cells (gcells (mxF H M) (k + 1)) 28 (0, 0)) ∧ wx.heap[w1.heap.size + 1]? = some (.cells (gcells (mnF G M) k) 28 (0, 0)))
      case first =>
        go_region
        all_goals
          go_wp2_with fail
          all_goals
            go_meet
            refine ⟨?_, ?_, ?_, ?_, ?_, ?_⟩
            · exact (G1.out.setCell (p := ⟨w1.heap.size, k, none⟩) (by have := zW1.out; simp only; omega) _).drew
            · exact (heap_setCell_other _ _ _ _ (by have := zW1.out; simp only; omega)).trans HA.out
            · exact (heap_setCell_other _ _ _ _ (by have := zW1.out; simp only; omega)).trans HB.out
            · exact (heap_setCell_other _ _ _ _ (by have := zW1.out; simp only; omega)).trans HC.out
            · exact arr_set h4 HX.out _ (by unfold mxF; first | rw [if_neg (by omega)] | rw [if_pos (by omega)])
            · exact (heap_setCell_other _ _ _ _ (by simp only; omega)).trans HY.out
      case rest =>
        obtain ⟨hg, hA, hB, hC, hX, hY⟩ := hcut
        clear G1 HA HB HC HX HY cA cB cX fX
        have G1 := hid hg
        have HA := hid hA
        have HB := hid hB
        have HC := hid hC
        have HX := hid hX
        have HY := hid hY
        clear hg hA hB hC hX hY
        have cC := (cell_of HC.out k).trans (vec_at G k h4)
        have cB := (cell_of HB.out k).trans (vec_at M k h4)
        have cY : wc.cell? ⟨w1.heap.size + 1, k, none⟩ = some (.int .i64 (garr (mnF G M) k k)) := (cell_of HY.out k).trans (vec_at (garr (mnF G M) k) k h4)
        have fY := free_of HY.out k
        go_wp2_with fail
        go_region
        all_goals
          go_wp2_with fail
          all_goals
            go_roundw
            case rel =>
              refine ⟨k + 1, by omega, by go_num, ?_, ?_, ?_, ?_, ?_, ?_⟩
              · exact (G1.out.setCell (p := ⟨w1.heap.size + 1, k, none⟩) (by have := zW1.out; simp only; omega) _).drew
              · exact (heap_setCell_other _ _ _ _ (by have := zW1.out; simp only; omega)).trans HA.out
              · exact (heap_setCell_other _ _ _ _ (by have := zW1.out; simp only; omega)).trans HB.out
              · exact (heap_setCell_other _ _ _ _ (by have := zW1.out; simp only; omega)).trans HC.out
              · exact (heap_setCell_other _ _ _ _ (by simp only; omega)).trans HX.out
              · exact arr_set h4 HY.out _ (by unfold mnF; split <;> first | rfl | (exfalso; omega) | (congr 1; omega))
            case measure => simp [intOf]; omega
    · obtain rfl : k = 4 := by omega
      have HX4 := hid (show wr.heap[w1.heap.size]? = some (.cells #[.int .i64 (mxF H M 0), .int .i64 (mxF H M 1), .int .i64 (mxF H M 2), .int .i64 (mxF H M 3)] 28 (0, 0)) from HX.out)
      have HY4 := hid (show wr.heap[w1.heap.size + 1]? = some (.cells #[.int .i64 (mnF G M 0), .int .i64 (mnF G M 1), .int .i64 (mnF G M 2), .int .i64 (mnF G M 3)] 28 (0, 0)) from HY.out)
      clear HX HY
      obtain ⟨a0, a1, a2, a3⟩ := four HA.out
      obtain ⟨b0, b1, b2, b3⟩ := four HC.out
      go_wp2_with fail
      refine (K1.out _).mono ?_
      rintro _ w2 ⟨rfl, hbb⟩
      have g2 := hid (below_step G1.out G1.out.size hbb)
      have A2 := hid (keep0 hbb HA.out)
      have C2 := hid (keep0 hbb HC.out)
      have X2 := hid (keep0 hbb HX4.out)
      have Y2 := hid (keep0 hbb HY4.out)
      clear hbb a0 a1 a2 a3 b0 b1 b2 b3
      have zz := lt_of A2.out
      have zX := lt_of X2.out
      have zC := lt_of C2.out
      obtain ⟨a0, a1, a2, a3⟩ := four X2.out
      obtain ⟨b0, b1, b2, b3⟩ := four C2.out
      go_wp2_with fail
      refine (K2.out _).mono ?_
      rintro _ w3 ⟨rfl, hbb⟩
      have g3 := hid (below_step (g2.out.alloc g2.out.size (.cells #[.int .i64 s1, .int .i64 e1] 23)) (by have := g2.out.size; go_size) hbb)
      have A3 := hid (keepA hbb A2.out)
      have Y3 := hid (keepA hbb Y2.out)
      have S3 := hid (newA hbb)
      clear hbb a0 a1 a2 a3 b0 b1 b2 b3
      have zz3 := lt_of A3.out
      have zY := lt_of Y3.out
      have zS := lt_of S3.out
      obtain ⟨a0, a1, a2, a3⟩ := four A3.out
      obtain ⟨b0, b1, b2, b3⟩ := four Y3.out
      go_wp2_with fail
      refine (K3.out _).mono ?_
      rintro _ w4 ⟨rfl, hbb⟩
      have g4 := hid ((below_step (g3.out.alloc g3.out.size (.cells #[.int .i64 s2, .int .i64 e2] 23)) (by have := g3.out.size; go_size) hbb).alloc (by have := g3.out.size; have := hbb.size; simp at this; omega) (.cells #[.int .i64 s3, .int .i64 e3] 23))
      have S4' := keepA hbb S3.out
      have T4' := newA hbb
      have S4 := hid ((Below.heap_alloc w4 (.cells #[.int .i64 s3, .int .i64 e3] 23) _ (lt_of S4')).trans S4')
      have T4 := hid ((Below.heap_alloc w4 (.cells #[.int .i64 s3, .int .i64 e3] 23) _ (lt_of T4')).trans T4')
      have U4 := hid (heap_new w4 (.cells #[.int .i64 s3, .int .i64 e3] 23))
      clear hbb a0 a1 a2 a3 b0 b1 b2 b3 S4' T4'
      obtain ⟨cS40, cS41⟩ := two S4.out
      obtain ⟨cT40, cT41⟩ := two T4.out
      obtain ⟨cU40, cU41⟩ := two U4.out
      have d4 : decide (0 ≤ r4) = true := by simp; omega
      have d5 : decide (0 ≤ r5) = true := by simp; omega
      go_wp2_with fail
      refine (K4.out _).mono ?_
      rintro _ w5 ⟨rfl, hbb⟩
      have g5 := hid (below_step g4.out g4.out.size hbb)
      have S5 := hid (keep0 hbb S4.out)
      have U5 := hid (keep0 hbb U4.out)
      clear hbb cS40 cS41 cT40 cT41 cU40 cU41
      obtain ⟨cS50, cS51⟩ := two S5.out
      obtain ⟨cU50, cU51⟩ := two U5.out
      go_wp2_with fail
      refine (K5.out _).mono ?_
      rintro _ w6 ⟨rfl, hbb⟩
      have g6 := hid (below_step g5.out g5.out.size hbb)
      clear hbb
      go_wp2_with fail
      all_goals go_returns
      all_goals exact ⟨by first | rfl | simp | (simp; omega), g6.out⟩
end Go.Proofs.Ytafcajojepigiaa
