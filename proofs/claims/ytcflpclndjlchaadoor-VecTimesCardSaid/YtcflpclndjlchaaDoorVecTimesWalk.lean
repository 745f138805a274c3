/- The Go function VecTimes, called with any amounts, returns true and leaves all that was there. Condition: none. -/
import Derived.Test.YtcflpclndjlchaaDoorAwake
import Derived.Test.YtcflpclndjlchaaDoorVecFitsWalk
import Derived.Test.YtcflpclndjlchaaDoorRTimes
import Derived.Test.YtcflpclndjlchaaDoorRows
import Derived.Deep.RegionHeld3
namespace Go.Proofs.YtcflpclndjlchaaDoor
open Go Go.ChangeShapes Go.WideShapes Go.RowKit
theorem withF_congr {A B : Nat → Int} (e : Int) (h : A = B) : withF A e = withF B e := by rw [h]
theorem times_zero (A : Nat → Int) : timesF A 0 = (fun _ => 0, if rightB A = true then 0 else 1) := by
  have e : (fun i => A i * fac 0) = (fun _ => 0) := funext fun i => by
    show A i * 0 = 0
    rw [Int.mul_zero]
  have r : rightB (fun _ => 0) = true := by decide
  unfold timesF
  by_cases h : rightB A = true
  · rw [if_pos ⟨h, by decide⟩, if_pos h, e, withF, if_pos r]
  · rw [if_neg (fun g => h g.1), if_neg h]
theorem times_step {A : Nat → Int} {n : Int} (hA : rightB A = true) (hn : 1 ≤ n) :
    ((timesF A (n - 1)).2 ≠ 0 ∧ (timesF A n).2 = 30) ∨ ((timesF A (n - 1)).2 = 0 ∧ (∀ i, i < 4 → (addF (timesF A (n - 1)).1 A).1 i = (timesF A n).1 i) ∧ (addF (timesF A (n - 1)).1 A).2 = (timesF A n).2) := by
  have e1 : timesF A (n - 1) = withF (fun i => A i * fac (n - 1)) 30 := by rw [timesF, if_pos ⟨hA, by omega⟩]
  have e2 : timesF A n = withF (fun i => A i * fac n) 30 := by rw [timesF, if_pos ⟨hA, by omega⟩]
  have hr := (rightB_iff A).1 hA
  have hf : (fac n = fac (n - 1) + 1) ∨ (fac n = 1073741825 ∧ fac (n - 1) = 1073741825) := by
    unfold fac
    split <;> split <;> omega
  have hf0 : 0 ≤ fac (n - 1) := fac_pos (by omega)
  rw [e1, e2]
  by_cases h : rightB (fun i => A i * fac (n - 1)) = true
  · refine .inr ⟨by rw [withF, if_pos h], ?_⟩
    have e3 : withF (fun i => A i * fac (n - 1)) 30 = (fun i => A i * fac (n - 1), 0) := by rw [withF, if_pos h]
    rw [e3]
    have e4 : addF (fun i => A i * fac (n - 1)) A = withF (fun i => A i * fac (n - 1) + A i) 30 := by
      unfold addF
      rw [if_pos ⟨h, hA⟩]
    show (∀ i, i < 4 → (addF (fun i => A i * fac (n - 1)) A).1 i = _) ∧ (addF (fun i => A i * fac (n - 1)) A).2 = _
    rw [e4]
    have hs : ∀ i, i < 4 → A i * fac (n - 1) + A i = A i * fac n := fun i hi => by
      rcases hf with hf | ⟨hf, hg⟩
      · rw [hf, Int.mul_add, Int.mul_one]
      · have h1 : A i * fac (n - 1) ≤ 1073741824 := ((rightB_iff _).1 h i hi).2
        rw [hg] at h1 ⊢
        rw [hf]
        have h2 := (hr i hi).1
        omega
    have hc : rightB (fun i => A i * fac (n - 1) + A i) = rightB (fun i => A i * fac n) := by
      unfold rightB
      simp only [hs 0 (by decide), hs 1 (by decide), hs 2 (by decide), hs 3 (by decide)]
    unfold withF
    rw [hc]
    by_cases g : rightB (fun i => A i * fac n) = true
    · rw [if_pos g, if_pos g]
      exact ⟨hs, rfl⟩
    · rw [if_neg g, if_neg g]
      exact ⟨fun _ _ => rfl, rfl⟩
  · have h' : withF (fun i => A i * fac (n - 1)) 30 = (fun _ => 0, 30) := by rw [withF, if_neg h]
    refine .inl ⟨by rw [h']; decide, ?_⟩
    have hb : ¬ rightB (fun i => A i * fac n) = true := fun g => h ((rightB_iff _).2 fun i hi => by
      have h1 : A i * fac n ≤ 1073741824 := ((rightB_iff _).1 g i hi).2
      have h0 := Int.mul_nonneg (hr i hi).1 hf0
      have h2 : A i * fac (n - 1) ≤ A i * fac n := Int.mul_le_mul_of_nonneg_left (by omega) (hr i hi).1
      exact ⟨h0, Int.le_trans h2 h1⟩)
    rw [withF, if_neg hb]
theorem zero_is {A : Nat → Int} {b : Bool} (h : rightB A = b) (w : World) : Calls Tryd.prog 14 #[.agg #[.int .i64 (A 0), .int .i64 (A 1), .int .i64 (A 2), .int .i64 (A 3)], .int .i64 0] w fun en w' => en = .returned (.tuple #[.agg #[.int .i64 0, .int .i64 0, .int .i64 0, .int .i64 0], .int .i64 (if b = true then 0 else 1)]) ∧ Below w.heap.size w w' := by
  have k := times_any A 0 w
  rw [times_zero, h] at k
  exact k
set_option maxRecDepth 100000 in
set_option maxHeartbeats 4000000 in
theorem vecTimes_walk {H : Type} {enc : TypeId × Value → H} (W : World) (base : Nat) (args : Array Value) (ds : List (DataW H))
    (hval : ∀ (j : Nat) t v, Tryd.f8.params[j]? = some t → args[j]? = some v → Value.okWide Tryd.prog W .any base t v)
    (hA : ∃ p, DataW.TrodAll enc Tryd.prog W 0 (fun _ => true) true Tryd.f8.params.toList args.toList ds p) 
    (_ : (DataW.weightsEach Tryd.prog (Tryd.f8.params.toList ++ (OpenSpec.ofChange Rows.vecTimesSpec).bare.plain.varTypes Tryd.prog) (ds ++ [])).all (· ≤ reachBytes) = true)
    (_ : laidMetH Tryd.prog Rows.vecTimesRow.laid W) (_ : W.ShapedOpen Tryd.prog) :
    Calls Tryd.prog 8 args W fun e W' => e = .returned (.bool true) ∧ Below W.heap.size W W' := by
  obtain ⟨p, hA⟩ := hA
  rw [Tryd.params8] at hA hval
  obtain ⟨v0, v1, d0, d1, p0, p1, hargs, rfl, rfl, h0, h1⟩ := trodAll_two hA
  subst hargs
  obtain ⟨A, rfl, _⟩ := vec_is (hval 0 23 v0 rfl rfl) h0
  obtain ⟨n, rfl, _, _, wn⟩ := open_int Tryd.underlying3 (hval 1 3 v1 rfl rfl) h1
  obtain ⟨n0, n1⟩ := wf_le wn
  clear h0 h1 hval hA wn
  have hE := eq_vec
  have qz : eq4 0 0 0 0 0 0 0 0 = true := by decide
  have A0 := hid (heap_new W (.cells #[.int .i64 (A 0), .int .i64 (A 1), .int .i64 (A 2), .int .i64 (A 3)] 23))
  have g0 := hid (show Below W.heap.size W (W.alloc (.cells #[.int .i64 (A 0), .int .i64 (A 1), .int .i64 (A 2), .int .i64 (A 3)] 23)) from by go_grown)
  by_cases hn : n < 1
  · cases hR : rightB A
    · have KZ := hid (zero_is hR)
      have KR := hid (right_is hR)
      clear hR
      go_enter Tryd.func8, Tryd.ntmps8
      go_wp2_with fail
      refine (awake_any _).mono ?_
      rintro _ w1 ⟨rfl, hbb⟩
      have g1 := hid (below_step g0.out g0.out.size hbb)
      have A1 := hid (keep0 hbb A0.out)
      clear hbb A0 g0
      obtain ⟨aa0, aa1, aa2, aa3⟩ := four A1.out
      go_wp2_with fail
      refine (KZ.out _).mono ?_
      rintro _ w2 ⟨rfl, hbb⟩
      have g2 := hid ((below_step g1.out g1.out.size hbb).alloc (by have := g1.out.size; have := hbb.size; go_size) (.cells #[.int .i64 0, .int .i64 0, .int .i64 0, .int .i64 0] 23))
      have A2 := hid (heapA (o := (.cells #[.int .i64 0, .int .i64 0, .int .i64 0, .int .i64 0] 23)) (keep0 hbb A1.out))
      have Z2 := hid (heap_new w2 (.cells #[.int .i64 0, .int .i64 0, .int .i64 0, .int .i64 0] 23))
      clear hbb aa0 aa1 aa2 aa3
      obtain ⟨aa0, aa1, aa2, aa3⟩ := four A2.out
      obtain ⟨zz0, zz1, zz2, zz3⟩ := four Z2.out
      go_wp2_with fail
      refine (KR.out _).mono ?_
      rintro _ w3 ⟨rfl, hbb⟩
      have g3 := hid (below_step g2.out g2.out.size hbb)
      have A3 := hid (keep0 hbb A2.out)
      have Z3 := hid (keep0 hbb Z2.out)
      clear hbb aa0 aa1 aa2 aa3 zz0 zz1 zz2 zz3
      obtain ⟨aa0, aa1, aa2, aa3⟩ := four A3.out
      obtain ⟨zz0, zz1, zz2, zz3⟩ := four Z3.out
      go_wp2_with fail
      all_goals go_returns
      all_goals exact ⟨by first | rfl | simp, g3.out⟩
    · have KZ := hid (zero_is hR)
      have KR := hid (right_is hR)
      clear hR
      go_enter Tryd.func8, Tryd.ntmps8
      go_wp2_with fail
      refine (awake_any _).mono ?_
      rintro _ w1 ⟨rfl, hbb⟩
      have g1 := hid (below_step g0.out g0.out.size hbb)
      have A1 := hid (keep0 hbb A0.out)
      clear hbb A0 g0
      obtain ⟨aa0, aa1, aa2, aa3⟩ := four A1.out
      go_wp2_with fail
      refine (KZ.out _).mono ?_
      rintro _ w2 ⟨rfl, hbb⟩
      have g2 := hid ((below_step g1.out g1.out.size hbb).alloc (by have := g1.out.size; have := hbb.size; go_size) (.cells #[.int .i64 0, .int .i64 0, .int .i64 0, .int .i64 0] 23))
      have A2 := hid (heapA (o := (.cells #[.int .i64 0, .int .i64 0, .int .i64 0, .int .i64 0] 23)) (keep0 hbb A1.out))
      have Z2 := hid (heap_new w2 (.cells #[.int .i64 0, .int .i64 0, .int .i64 0, .int .i64 0] 23))
      clear hbb aa0 aa1 aa2 aa3
      obtain ⟨aa0, aa1, aa2, aa3⟩ := four A2.out
      obtain ⟨zz0, zz1, zz2, zz3⟩ := four Z2.out
      go_wp2_with fail
      refine (KR.out _).mono ?_
      rintro _ w3 ⟨rfl, hbb⟩
      have g3 := hid (below_step g2.out g2.out.size hbb)
      have A3 := hid (keep0 hbb A2.out)
      have Z3 := hid (keep0 hbb Z2.out)
      clear hbb aa0 aa1 aa2 aa3 zz0 zz1 zz2 zz3
      obtain ⟨aa0, aa1, aa2, aa3⟩ := four A3.out
      obtain ⟨zz0, zz1, zz2, zz3⟩ := four Z3.out
      go_wp2_with fail
      all_goals go_returns
      all_goals exact ⟨by first | rfl | simp, g3.out⟩
  · have hn1 : 1 ≤ n := by omega
    cases hR : rightB A
    · have KZ := hid (zero_is hR)
      have KR := hid (right_is hR)
      clear hR
      go_enter Tryd.func8, Tryd.ntmps8
      go_wp2_with fail
      refine (awake_any _).mono ?_
      rintro _ w1 ⟨rfl, hbb⟩
      have g1 := hid (below_step g0.out g0.out.size hbb)
      have A1 := hid (keep0 hbb A0.out)
      clear hbb A0 g0
      obtain ⟨aa0, aa1, aa2, aa3⟩ := four A1.out
      go_wp2_with fail
      refine (KR.out _).mono ?_
      rintro _ w2 ⟨rfl, hbb⟩
      have g2 := hid (below_step g1.out g1.out.size hbb)
      have A2 := hid (keep0 hbb A1.out)
      clear hbb aa0 aa1 aa2 aa3
      obtain ⟨aa0, aa1, aa2, aa3⟩ := four A2.out
      go_wp2_with fail
      refine (KZ.out _).mono ?_
      rintro _ w3 ⟨rfl, hbb⟩
      have g3 := hid ((below_step g2.out g2.out.size hbb).alloc (by have := g2.out.size; have := hbb.size; go_size) (.cells #[.int .i64 0, .int .i64 0, .int .i64 0, .int .i64 0] 23))
      have A3 := hid (heapA (o := (.cells #[.int .i64 0, .int .i64 0, .int .i64 0, .int .i64 0] 23)) (keep0 hbb A2.out))
      have Z3 := hid (heap_new w3 (.cells #[.int .i64 0, .int .i64 0, .int .i64 0, .int .i64 0] 23))
      clear hbb aa0 aa1 aa2 aa3
      obtain ⟨aa0, aa1, aa2, aa3⟩ := four A3.out
      obtain ⟨zz0, zz1, zz2, zz3⟩ := four Z3.out
      go_wp2_with fail
      refine (KR.out _).mono ?_
      rintro _ w4 ⟨rfl, hbb⟩
      have g4 := hid (below_step g3.out g3.out.size hbb)
      have A4 := hid (keep0 hbb A3.out)
      have Z4 := hid (keep0 hbb Z3.out)
      clear hbb aa0 aa1 aa2 aa3 zz0 zz1 zz2 zz3
      obtain ⟨aa0, aa1, aa2, aa3⟩ := four A4.out
      obtain ⟨zz0, zz1, zz2, zz3⟩ := four Z4.out
      go_wp2_with fail
      all_goals go_returns
      all_goals exact ⟨by first | rfl | simp, g4.out⟩
    · have KR := hid (right_is hR)
      have K1 := hid (times_any A n)
      have K2 := hid (times_any A (n - 1))
      have hS : ((timesF A (n - 1)).2 ≠ 0 ∧ (timesF A n).2 = 30) ∨ ((timesF A (n - 1)).2 = 0 ∧ Hid (∀ w, Calls Tryd.prog 10 #[.agg #[.int .i64 ((timesF A (n - 1)).1 0), .int .i64 ((timesF A (n - 1)).1 1), .int .i64 ((timesF A (n - 1)).1 2), .int .i64 ((timesF A (n - 1)).1 3)], .agg #[.int .i64 (A 0), .int .i64 (A 1), .int .i64 (A 2), .int .i64 (A 3)]] w fun en w' => en = .returned (.tuple #[.agg #[.int .i64 ((timesF A n).1 0), .int .i64 ((timesF A n).1 1), .int .i64 ((timesF A n).1 2), .int .i64 ((timesF A n).1 3)], .int .i64 (timesF A n).2]) ∧ Below w.heap.size w w')) := by
        rcases times_step hR hn1 with h | ⟨h1, h2, h3⟩
        · exact .inl h
        · refine .inr ⟨h1, hid fun w => ?_⟩
          have k := add_any (timesF A (n - 1)).1 A w
          rw [h2 0 (by decide), h2 1 (by decide), h2 2 (by decide), h2 3 (by decide), h3] at k
          exact k
      have q1 := eq4_self (timesF A n).1
      clear hR
      generalize (timesF A n).1 = X at *
      generalize (timesF A n).2 = e at *
      generalize (timesF A (n - 1)).1 = Y at *
      generalize (timesF A (n - 1)).2 = f at *
      go_enter Tryd.func8, Tryd.ntmps8
      go_wp2_with fail
      refine (awake_any _).mono ?_
      rintro _ w1 ⟨rfl, hbb⟩
      have g1 := hid (below_step g0.out g0.out.size hbb)
      have A1 := hid (keep0 hbb A0.out)
      clear hbb A0 g0
      obtain ⟨aa0, aa1, aa2, aa3⟩ := four A1.out
      go_wp2_with fail
      refine (KR.out _).mono ?_
      rintro _ w2 ⟨rfl, hbb⟩
      have g2 := hid (below_step g1.out g1.out.size hbb)
      have A2 := hid (keep0 hbb A1.out)
      clear hbb aa0 aa1 aa2 aa3
      obtain ⟨aa0, aa1, aa2, aa3⟩ := four A2.out
      go_wp2_with fail
      refine (K1.out _).mono ?_
      rintro _ w3 ⟨rfl, hbb⟩
      have g3 := hid ((below_step g2.out g2.out.size hbb).alloc (by have := g2.out.size; have := hbb.size; go_size) (.cells #[.int .i64 (X 0), .int .i64 (X 1), .int .i64 (X 2), .int .i64 (X 3)] 23))
      have A3 := hid (heapA (o := (.cells #[.int .i64 (X 0), .int .i64 (X 1), .int .i64 (X 2), .int .i64 (X 3)] 23)) (keep0 hbb A2.out))
      have X3 := hid (heap_new w3 (.cells #[.int .i64 (X 0), .int .i64 (X 1), .int .i64 (X 2), .int .i64 (X 3)] 23))
      clear hbb aa0 aa1 aa2 aa3
      obtain ⟨aa0, aa1, aa2, aa3⟩ := four A3.out
      go_wp2_with fail
      refine (K2.out _).mono ?_
      rintro _ w4 ⟨rfl, hbb⟩
      have g4 := hid ((below_step g3.out g3.out.size hbb).alloc (by have := g3.out.size; have := hbb.size; go_size) (.cells #[.int .i64 (Y 0), .int .i64 (Y 1), .int .i64 (Y 2), .int .i64 (Y 3)] 23))
      have A4 := hid (heapA (o := (.cells #[.int .i64 (Y 0), .int .i64 (Y 1), .int .i64 (Y 2), .int .i64 (Y 3)] 23)) (keep0 hbb A3.out))
      have X4 := hid (heapA (o := (.cells #[.int .i64 (Y 0), .int .i64 (Y 1), .int .i64 (Y 2), .int .i64 (Y 3)] 23)) (keep0 hbb X3.out))
      have Y4 := hid (heap_new w4 (.cells #[.int .i64 (Y 0), .int .i64 (Y 1), .int .i64 (Y 2), .int .i64 (Y 3)] 23))
      clear hbb aa0 aa1 aa2 aa3
      obtain ⟨aa0, aa1, aa2, aa3⟩ := four A4.out
      obtain ⟨yy0, yy1, yy2, yy3⟩ := four Y4.out
      rcases hS with ⟨hf, rfl⟩ | ⟨rfl, KS⟩
      · have f1 : (f != 0) = true := by simp; omega
        go_wp2_with fail
        all_goals go_returns
        all_goals exact ⟨by first | rfl | simp, g4.out⟩
      · go_wp2_with fail
        refine (KS.out _).mono ?_
        rintro _ w5 ⟨rfl, hbb⟩
        have g5 := hid ((below_step g4.out g4.out.size hbb).alloc (by have := g4.out.size; have := hbb.size; go_size) (.cells #[.int .i64 (X 0), .int .i64 (X 1), .int .i64 (X 2), .int .i64 (X 3)] 23))
        have A5 := hid (heapA (o := (.cells #[.int .i64 (X 0), .int .i64 (X 1), .int .i64 (X 2), .int .i64 (X 3)] 23)) (keep0 hbb A4.out))
        have X5 := hid (heapA (o := (.cells #[.int .i64 (X 0), .int .i64 (X 1), .int .i64 (X 2), .int .i64 (X 3)] 23)) (keep0 hbb X4.out))
        have Y5 := hid (heapA (o := (.cells #[.int .i64 (X 0), .int .i64 (X 1), .int .i64 (X 2), .int .i64 (X 3)] 23)) (keep0 hbb Y4.out))
        have S5 := hid (heap_new w5 (.cells #[.int .i64 (X 0), .int .i64 (X 1), .int .i64 (X 2), .int .i64 (X 3)] 23))
        clear hbb aa0 aa1 aa2 aa3 yy0 yy1 yy2 yy3
        obtain ⟨xx0, xx1, xx2, xx3⟩ := four X5.out
        obtain ⟨ss0, ss1, ss2, ss3⟩ := four S5.out
        go_wp2_with fail
        all_goals go_returns
        all_goals exact ⟨by first | rfl | simp, g5.out⟩
end Go.Proofs.YtcflpclndjlchaaDoor
