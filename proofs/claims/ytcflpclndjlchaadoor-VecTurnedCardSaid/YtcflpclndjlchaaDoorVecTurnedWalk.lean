/- The Go function VecTurned, called with any amounts, returns true and leaves all that was there. Condition: none. -/
import Derived.Test.YtcflpclndjlchaaDoorAwake
import Derived.Test.YtcflpclndjlchaaDoorVecFitsWalk
import Derived.Test.YtcflpclndjlchaaDoorRows
import Derived.Deep.RegionHeld3
import Derived.Deep.QuietTactic
import Derived.BigQuiet
namespace Go.Proofs.YtcflpclndjlchaaDoor
open Go Go.ChangeShapes Go.WideShapes Go.RowKit
theorem below_quiet {B : Nat} {a w : World} (h : Below B a w) (n : Nat) : Below B a (w.drewN n) := ⟨h.os, h.tape, h.output, h.size, h.block⟩
theorem rightB_congr {A B : Nat → Int} (h : ∀ i, i < 4 → A i = B i) : rightB A = rightB B := by
  unfold rightB
  rw [h 0 (by decide), h 1 (by decide), h 2 (by decide), h 3 (by decide)]
theorem addF_comm (A B : Nat → Int) : addF A B = addF B A := by
  have e : (fun i => A i + B i) = (fun i => B i + A i) := funext fun i => Int.add_comm _ _
  unfold addF
  rw [e]
  by_cases h : rightB A = true ∧ rightB B = true
  · rw [if_pos h, if_pos ⟨h.2, h.1⟩]
  · rw [if_neg h, if_neg (fun g => h ⟨g.2, g.1⟩)]
theorem addF_ok {A B : Nat → Int} (h : (addF A B).2 = 0) : rightB A = true ∧ rightB B = true ∧ rightB (fun i => A i + B i) = true ∧ (addF A B).1 = fun i => A i + B i := by
  unfold addF at *
  by_cases hab : rightB A = true ∧ rightB B = true
  · rw [if_pos hab] at h ⊢
    unfold withF at *
    by_cases hs : rightB (fun i => A i + B i) = true
    · rw [if_pos hs]
      exact ⟨hab.1, hab.2, hs, rfl⟩
    · rw [if_neg hs] at h
      simp at h
  · rw [if_neg hab] at h
    simp at h
theorem sub_back {A B : Nat → Int} (hA : rightB A = true) (hB : rightB B = true) (hS : rightB (fun i => A i + B i) = true) : subF (fun i => A i + B i) B = (A, 0) := by
  have e : (fun i => A i + B i - B i) = A := funext fun i => by omega
  unfold subF
  rw [if_pos ⟨hS, hB⟩]
  show withF (fun i => A i + B i - B i) 31 = (A, 0)
  rw [e, withF, if_pos hA]
theorem fits_sum {A B : Nat → Int} (hB : rightB B = true) : fitsB A (fun i => A i + B i) = true :=
  (fitsB_iff _ _).2 fun i hi => by
    have := (rightB_iff B).1 hB i hi
    show A i ≤ A i + B i
    omega
theorem fits_both (A B C : Nat → Int) : fitsB (fun i => A i + C i) (fun i => B i + C i) = fitsB A B := by
  have h1 := fitsB_iff (fun i => A i + C i) (fun i => B i + C i)
  have h2 := fitsB_iff A B
  cases h : fitsB A B with
  | true => exact h1.2 fun i hi => by have := h2.1 h i hi; show A i + C i ≤ B i + C i; omega
  | false =>
    cases h' : fitsB (fun i => A i + C i) (fun i => B i + C i) with
    | false => rfl
    | true =>
      have := h2.2 fun i hi => by have k : A i + C i ≤ B i + C i := h1.1 h' i hi; omega
      rw [h] at this
      exact this.symm
/-- What the law asks of a sum that came out well. -/
def Well (A B X : Nat → Int) : Prop :=
  (∀ w, Calls Tryd.prog 12 #[.agg #[.int .i64 (X 0), .int .i64 (X 1), .int .i64 (X 2), .int .i64 (X 3)], .agg #[.int .i64 (B 0), .int .i64 (B 1), .int .i64 (B 2), .int .i64 (B 3)]] w fun en w' => en = .returned (.tuple #[.agg #[.int .i64 (A 0), .int .i64 (A 1), .int .i64 (A 2), .int .i64 (A 3)], .int .i64 0]) ∧ Below w.heap.size w w') ∧
  (∀ w, Calls Tryd.prog 20 #[.agg #[.int .i64 (A 0), .int .i64 (A 1), .int .i64 (A 2), .int .i64 (A 3)], .agg #[.int .i64 (X 0), .int .i64 (X 1), .int .i64 (X 2), .int .i64 (X 3)]] w fun e w' => e = .returned (.bool true) ∧ Below w.heap.size w w') ∧
  (∀ w, Calls Tryd.prog 16 #[.agg #[.int .i64 (X 0), .int .i64 (X 1), .int .i64 (X 2), .int .i64 (X 3)]] w fun e w' => e = .returned (.bool true) ∧ Below w.heap.size w w')
theorem well_of {A B : Nat → Int} (h : (addF A B).2 = 0) : Well A B (addF A B).1 := by
  obtain ⟨hA, hB, hS, hx⟩ := addF_ok h
  rw [hx]
  refine ⟨fun w => ?_, fun w => fits_is (fits_sum hB) w, fun w => right_is hS w⟩
  have k := sub_any (fun i => A i + B i) B w
  rw [sub_back hA hB hS] at k
  exact k
/-- What the law asks of two sums with the same. -/
theorem turn_end (A B C : Nat → Int) : (addF A C).2 ≠ 0 ∨ ((addF A C).2 = 0 ∧ (addF B C).2 ≠ 0) ∨ ((addF A C).2 = 0 ∧ (addF B C).2 = 0 ∧ ∃ f : Bool, (∀ w, Calls Tryd.prog 20 #[.agg #[.int .i64 ((addF A C).1 0), .int .i64 ((addF A C).1 1), .int .i64 ((addF A C).1 2), .int .i64 ((addF A C).1 3)], .agg #[.int .i64 ((addF B C).1 0), .int .i64 ((addF B C).1 1), .int .i64 ((addF B C).1 2), .int .i64 ((addF B C).1 3)]] w fun e w' => e = .returned (.bool f) ∧ Below w.heap.size w w') ∧ (∀ w, Calls Tryd.prog 20 #[.agg #[.int .i64 (A 0), .int .i64 (A 1), .int .i64 (A 2), .int .i64 (A 3)], .agg #[.int .i64 (B 0), .int .i64 (B 1), .int .i64 (B 2), .int .i64 (B 3)]] w fun e w' => e = .returned (.bool f) ∧ Below w.heap.size w w')) := by
  by_cases h1 : (addF A C).2 = 0
  · by_cases h2 : (addF B C).2 = 0
    · refine .inr (.inr ⟨h1, h2, fitsB A B, fun w => ?_, fun w => fits_any A B w⟩)
      obtain ⟨_, _, _, e1⟩ := addF_ok h1
      obtain ⟨_, _, _, e2⟩ := addF_ok h2
      rw [e1, e2]
      exact fits_is (fits_both A B C) w
    · exact .inr (.inl ⟨h1, h2⟩)
  · exact .inl h1
set_option maxRecDepth 100000 in
set_option maxHeartbeats 8000000 in
theorem vecTurned_walk {H : Type} {enc : TypeId × Value → H} (W : World) (base : Nat) (args : Array Value) (ds : List (DataW H))
    (hval : ∀ (j : Nat) t v, Tryd.f7.params[j]? = some t → args[j]? = some v → Value.okWide Tryd.prog W .any base t v)
    (hA : ∃ p, DataW.TrodAll enc Tryd.prog W 0 (fun _ => true) true Tryd.f7.params.toList args.toList ds p) 
    (_ : (DataW.weightsEach Tryd.prog (Tryd.f7.params.toList ++ (OpenSpec.ofChange Rows.vecTurnedSpec).bare.plain.varTypes Tryd.prog) (ds ++ [])).all (· ≤ reachBytes) = true)
    (_ : laidMetH Tryd.prog Rows.vecTurnedRow.laid W) (_ : W.ShapedOpen Tryd.prog) :
    Calls Tryd.prog 7 args W fun e W' => e = .returned (.bool true) ∧ Below W.heap.size W W' := by
  obtain ⟨p, hA⟩ := hA
  rw [Tryd.params7] at hA hval
  obtain ⟨v0, v1, v2, d0, d1, d2, p0, p1, p2, hargs, rfl, rfl, h0, h1, h2⟩ := trodAll_three hA
  subst hargs
  obtain ⟨A, rfl, _⟩ := vec_is (hval 0 23 v0 rfl rfl) h0
  obtain ⟨B, rfl, _⟩ := vec_is (hval 1 23 v1 rfl rfl) h1
  obtain ⟨C, rfl, _⟩ := vec_is (hval 2 23 v2 rfl rfl) h2
  clear h0 h1 h2 hval hA
  have hE := eq_vec
  have K1 := hid (add_any A B)
  have K2 := hid (add_any B A)
  rw [addF_comm B A] at K2
  have K3 := hid (add_any A C)
  have K4 := hid (add_any B C)
  have hW : (¬ (addF A B).2 = 0) ∨ ((addF A B).2 = 0 ∧ Hid (Well A B (addF A B).1)) := by
    by_cases h : (addF A B).2 = 0
    · exact .inr ⟨h, well_of h⟩
    · exact .inl h
  have hT := turn_end A B C
  have q1 := eq4_self (addF A B).1
  have q2 := eq4_self A
  generalize (addF A B).1 = X at *
  generalize (addF A B).2 = e at *
  generalize (addF A C).1 = Y at *
  generalize (addF A C).2 = f at *
  generalize (addF B C).1 = Z at *
  generalize (addF B C).2 = g at *
  have A0 := hid (show (((W.alloc (.cells #[.int .i64 (A 0), .int .i64 (A 1), .int .i64 (A 2), .int .i64 (A 3)] 23)).alloc (.cells #[.int .i64 (B 0), .int .i64 (B 1), .int .i64 (B 2), .int .i64 (B 3)] 23)).alloc (.cells #[.int .i64 (C 0), .int .i64 (C 1), .int .i64 (C 2), .int .i64 (C 3)] 23)).heap[W.heap.size]? = some (.cells #[.int .i64 (A 0), .int .i64 (A 1), .int .i64 (A 2), .int .i64 (A 3)] 23) from heapA (heapA (heap_new W _)))
  have B0 := hid (show (((W.alloc (.cells #[.int .i64 (A 0), .int .i64 (A 1), .int .i64 (A 2), .int .i64 (A 3)] 23)).alloc (.cells #[.int .i64 (B 0), .int .i64 (B 1), .int .i64 (B 2), .int .i64 (B 3)] 23)).alloc (.cells #[.int .i64 (C 0), .int .i64 (C 1), .int .i64 (C 2), .int .i64 (C 3)] 23)).heap[W.heap.size + 1]? = some (.cells #[.int .i64 (B 0), .int .i64 (B 1), .int .i64 (B 2), .int .i64 (B 3)] 23) from heapA (by simpa using heap_new (W.alloc (.cells #[.int .i64 (A 0), .int .i64 (A 1), .int .i64 (A 2), .int .i64 (A 3)] 23)) (.cells #[.int .i64 (B 0), .int .i64 (B 1), .int .i64 (B 2), .int .i64 (B 3)] 23)))
  have C0 := hid (show (((W.alloc (.cells #[.int .i64 (A 0), .int .i64 (A 1), .int .i64 (A 2), .int .i64 (A 3)] 23)).alloc (.cells #[.int .i64 (B 0), .int .i64 (B 1), .int .i64 (B 2), .int .i64 (B 3)] 23)).alloc (.cells #[.int .i64 (C 0), .int .i64 (C 1), .int .i64 (C 2), .int .i64 (C 3)] 23)).heap[W.heap.size + 1 + 1]? = some (.cells #[.int .i64 (C 0), .int .i64 (C 1), .int .i64 (C 2), .int .i64 (C 3)] 23) from by simpa using heap_new ((W.alloc (.cells #[.int .i64 (A 0), .int .i64 (A 1), .int .i64 (A 2), .int .i64 (A 3)] 23)).alloc (.cells #[.int .i64 (B 0), .int .i64 (B 1), .int .i64 (B 2), .int .i64 (B 3)] 23)) (.cells #[.int .i64 (C 0), .int .i64 (C 1), .int .i64 (C 2), .int .i64 (C 3)] 23))
  have g0 := hid (show Below W.heap.size W (((W.alloc (.cells #[.int .i64 (A 0), .int .i64 (A 1), .int .i64 (A 2), .int .i64 (A 3)] 23)).alloc (.cells #[.int .i64 (B 0), .int .i64 (B 1), .int .i64 (B 2), .int .i64 (B 3)] 23)).alloc (.cells #[.int .i64 (C 0), .int .i64 (C 1), .int .i64 (C 2), .int .i64 (C 3)] 23)) from by go_grown)
  go_enter Tryd.func7, Tryd.ntmps7
  go_wp2_with fail
  refine (awake_any _).mono ?_
  rintro _ w1 ⟨rfl, hbb⟩
  have g1 := hid (below_step g0.out g0.out.size hbb)
  have A1 := hid (keep0 hbb A0.out)
  have B1 := hid (keep0 hbb B0.out)
  have C1 := hid (keep0 hbb C0.out)
  clear hbb A0 B0 C0 g0
  obtain ⟨aa0, aa1, aa2, aa3⟩ := four A1.out
  obtain ⟨bb0, bb1, bb2, bb3⟩ := four B1.out
  go_wp2_with fail
  refine (K1.out _).mono ?_
  rintro _ w2 ⟨rfl, hbb⟩
  have g2 := hid ((below_step g1.out g1.out.size hbb).alloc (by have := g1.out.size; have := hbb.size; go_size) (.cells #[.int .i64 (X 0), .int .i64 (X 1), .int .i64 (X 2), .int .i64 (X 3)] 23))
  have A2 := hid (heapA (o := (.cells #[.int .i64 (X 0), .int .i64 (X 1), .int .i64 (X 2), .int .i64 (X 3)] 23)) (keep0 hbb A1.out))
  have B2 := hid (heapA (o := (.cells #[.int .i64 (X 0), .int .i64 (X 1), .int .i64 (X 2), .int .i64 (X 3)] 23)) (keep0 hbb B1.out))
  have C2 := hid (heapA (o := (.cells #[.int .i64 (X 0), .int .i64 (X 1), .int .i64 (X 2), .int .i64 (X 3)] 23)) (keep0 hbb C1.out))
  have X2 := hid (heap_new w2 (.cells #[.int .i64 (X 0), .int .i64 (X 1), .int .i64 (X 2), .int .i64 (X 3)] 23))
  clear hbb aa0 aa1 aa2 aa3 bb0 bb1 bb2 bb3
  obtain ⟨aa0, aa1, aa2, aa3⟩ := four A2.out
  obtain ⟨bb0, bb1, bb2, bb3⟩ := four B2.out
  go_wp2_with fail
  refine (K2.out _).mono ?_
  rintro _ w3 ⟨rfl, hbb⟩
  have g3 := hid ((below_step g2.out g2.out.size hbb).alloc (by have := g2.out.size; have := hbb.size; go_size) (.cells #[.int .i64 (X 0), .int .i64 (X 1), .int .i64 (X 2), .int .i64 (X 3)] 23))
  have A3 := hid (heapA (o := (.cells #[.int .i64 (X 0), .int .i64 (X 1), .int .i64 (X 2), .int .i64 (X 3)] 23)) (keep0 hbb A2.out))
  have B3 := hid (heapA (o := (.cells #[.int .i64 (X 0), .int .i64 (X 1), .int .i64 (X 2), .int .i64 (X 3)] 23)) (keep0 hbb B2.out))
  have C3 := hid (heapA (o := (.cells #[.int .i64 (X 0), .int .i64 (X 1), .int .i64 (X 2), .int .i64 (X 3)] 23)) (keep0 hbb C2.out))
  have X3 := hid (heapA (o := (.cells #[.int .i64 (X 0), .int .i64 (X 1), .int .i64 (X 2), .int .i64 (X 3)] 23)) (keep0 hbb X2.out))
  have T3 := hid (heap_new w3 (.cells #[.int .i64 (X 0), .int .i64 (X 1), .int .i64 (X 2), .int .i64 (X 3)] 23))
  clear hbb aa0 aa1 aa2 aa3 bb0 bb1 bb2 bb3
  obtain ⟨aa0, aa1, aa2, aa3⟩ := four A3.out
  obtain ⟨bb0, bb1, bb2, bb3⟩ := four B3.out
  obtain ⟨cc0, cc1, cc2, cc3⟩ := four C3.out
  obtain ⟨xx0, xx1, xx2, xx3⟩ := four X3.out
  obtain ⟨tt0, tt1, tt2, tt3⟩ := four T3.out
  rcases hW with he | ⟨rfl, hwell⟩
  · have n0 : (e == 0) = false := by simp; omega
    go_wp2_with fail
    refine (K3.out _).mono ?_
    rintro _ w4 ⟨rfl, hbb⟩
    have g4 := hid ((below_step g3.out g3.out.size hbb).alloc (by have := g3.out.size; have := hbb.size; go_size) (.cells #[.int .i64 (Y 0), .int .i64 (Y 1), .int .i64 (Y 2), .int .i64 (Y 3)] 23))
    have A4 := hid (heapA (o := (.cells #[.int .i64 (Y 0), .int .i64 (Y 1), .int .i64 (Y 2), .int .i64 (Y 3)] 23)) (keep0 hbb A3.out))
    have B4 := hid (heapA (o := (.cells #[.int .i64 (Y 0), .int .i64 (Y 1), .int .i64 (Y 2), .int .i64 (Y 3)] 23)) (keep0 hbb B3.out))
    have C4 := hid (heapA (o := (.cells #[.int .i64 (Y 0), .int .i64 (Y 1), .int .i64 (Y 2), .int .i64 (Y 3)] 23)) (keep0 hbb C3.out))
    have X4 := hid (heapA (o := (.cells #[.int .i64 (Y 0), .int .i64 (Y 1), .int .i64 (Y 2), .int .i64 (Y 3)] 23)) (keep0 hbb X3.out))
    have T4 := hid (heapA (o := (.cells #[.int .i64 (Y 0), .int .i64 (Y 1), .int .i64 (Y 2), .int .i64 (Y 3)] 23)) (keep0 hbb T3.out))
    have Y4 := hid (heap_new w4 (.cells #[.int .i64 (Y 0), .int .i64 (Y 1), .int .i64 (Y 2), .int .i64 (Y 3)] 23))
    clear hbb aa0 aa1 aa2 aa3 bb0 bb1 bb2 bb3 cc0 cc1 cc2 cc3 xx0 xx1 xx2 xx3 tt0 tt1 tt2 tt3
    obtain ⟨bb0, bb1, bb2, bb3⟩ := four B4.out
    obtain ⟨cc0, cc1, cc2, cc3⟩ := four C4.out
    go_wp2_with fail
    refine (K4.out _).mono ?_
    rintro _ w5 ⟨rfl, hbb⟩
    have g5 := hid ((below_step g4.out g4.out.size hbb).alloc (by have := g4.out.size; have := hbb.size; go_size) (.cells #[.int .i64 (Z 0), .int .i64 (Z 1), .int .i64 (Z 2), .int .i64 (Z 3)] 23))
    have A5 := hid (heapA (o := (.cells #[.int .i64 (Z 0), .int .i64 (Z 1), .int .i64 (Z 2), .int .i64 (Z 3)] 23)) (keep0 hbb A4.out))
    have B5 := hid (heapA (o := (.cells #[.int .i64 (Z 0), .int .i64 (Z 1), .int .i64 (Z 2), .int .i64 (Z 3)] 23)) (keep0 hbb B4.out))
    have C5 := hid (heapA (o := (.cells #[.int .i64 (Z 0), .int .i64 (Z 1), .int .i64 (Z 2), .int .i64 (Z 3)] 23)) (keep0 hbb C4.out))
    have X5 := hid (heapA (o := (.cells #[.int .i64 (Z 0), .int .i64 (Z 1), .int .i64 (Z 2), .int .i64 (Z 3)] 23)) (keep0 hbb X4.out))
    have T5 := hid (heapA (o := (.cells #[.int .i64 (Z 0), .int .i64 (Z 1), .int .i64 (Z 2), .int .i64 (Z 3)] 23)) (keep0 hbb T4.out))
    have Y5 := hid (heapA (o := (.cells #[.int .i64 (Z 0), .int .i64 (Z 1), .int .i64 (Z 2), .int .i64 (Z 3)] 23)) (keep0 hbb Y4.out))
    have Z5 := hid (heap_new w5 (.cells #[.int .i64 (Z 0), .int .i64 (Z 1), .int .i64 (Z 2), .int .i64 (Z 3)] 23))
    clear hbb bb0 bb1 bb2 bb3 cc0 cc1 cc2 cc3
    obtain ⟨aa0, aa1, aa2, aa3⟩ := four A5.out
    obtain ⟨bb0, bb1, bb2, bb3⟩ := four B5.out
    obtain ⟨yy0, yy1, yy2, yy3⟩ := four Y5.out
    obtain ⟨zz0, zz1, zz2, zz3⟩ := four Z5.out
    rcases hT with hf | ⟨rfl, hg⟩ | ⟨rfl, rfl, fb, KF, KG⟩
    · have n1 : (f != 0) = true := by simp; omega
      go_wp2_with fail
      go_quiet (fail)
      go_wp2
      all_goals go_returns
      all_goals exact ⟨rfl, below_quiet g5.out _⟩
    · have n1 : (g != 0) = true := by simp; omega
      go_wp2_with fail
      go_quiet (fail)
      go_wp2
      all_goals go_returns
      all_goals exact ⟨rfl, below_quiet g5.out _⟩
    · have KF := hid KF
      have KG := hid KG
      go_wp2_with fail
      go_region_held3 (fun w' => (w'.cell? ⟨W.heap.size, 0, none⟩ = some (.int .i64 (A 0)) ∧ w'.cell? ⟨W.heap.size, 1, none⟩ = some (.int .i64 (A 1)) ∧ w'.cell? ⟨W.heap.size, 2, none⟩ = some (.int .i64 (A 2)) ∧ w'.cell? ⟨W.heap.size, 3, none⟩ = some (.int .i64 (A 3))) ∧ (w'.cell? ⟨W.heap.size + 1, 0, none⟩ = some (.int .i64 (B 0)) ∧ w'.cell? ⟨W.heap.size + 1, 1, none⟩ = some (.int .i64 (B 1)) ∧ w'.cell? ⟨W.heap.size + 1, 2, none⟩ = some (.int .i64 (B 2)) ∧ w'.cell? ⟨W.heap.size + 1, 3, none⟩ = some (.int .i64 (B 3))) ∧ (w'.cell? ⟨w4.heap.size, 0, none⟩ = some (.int .i64 (Y 0)) ∧ w'.cell? ⟨w4.heap.size, 1, none⟩ = some (.int .i64 (Y 1)) ∧ w'.cell? ⟨w4.heap.size, 2, none⟩ = some (.int .i64 (Y 2)) ∧ w'.cell? ⟨w4.heap.size, 3, none⟩ = some (.int .i64 (Y 3))) ∧ w'.cell? ⟨w5.heap.size, 0, none⟩ = some (.int .i64 (Z 0)) ∧ w'.cell? ⟨w5.heap.size, 1, none⟩ = some (.int .i64 (Z 1)) ∧ w'.cell? ⟨w5.heap.size, 2, none⟩ = some (.int .i64 (Z 2)) ∧ w'.cell? ⟨w5.heap.size, 3, none⟩ = some (.int .i64 (Z 3))) (first | exact ⟨⟨aa0, aa1, aa2, aa3⟩, ⟨bb0, bb1, bb2, bb3⟩, ⟨yy0, yy1, yy2, yy3⟩, zz0, zz1, zz2, zz3⟩ | exact ⟨⟨aa0p, aa1p, aa2p, aa3p⟩, ⟨bb0p, bb1p, bb2p, bb3p⟩, ⟨yy0p, yy1p, yy2p, yy3p⟩, zz0p, zz1p, zz2p, zz3p⟩ | exact ⟨⟨aa0q, aa1q, aa2q, aa3q⟩, ⟨bb0q, bb1q, bb2q, bb3q⟩, ⟨yy0q, yy1q, yy2q, yy3q⟩, zz0q, zz1q, zz2q, zz3q⟩ | go_keep) (first | (go_at_call 20; refine (KF.out _).mono ?_; rintro _ w6 ⟨rfl, hbb⟩; have g6 := hid (below_step g5.out g5.out.size (unD hbb)); have A6 := hid (keep0 (unD hbb) A5.out); obtain ⟨aa0p, aa1p, aa2p, aa3p⟩ := four A6.out; have B6 := hid (keep0 (unD hbb) B5.out); obtain ⟨bb0p, bb1p, bb2p, bb3p⟩ := four B6.out; have Y6 := hid (keep0 (unD hbb) Y5.out); obtain ⟨yy0p, yy1p, yy2p, yy3p⟩ := four Y6.out; have Z6 := hid (keep0 (unD hbb) Z5.out); obtain ⟨zz0p, zz1p, zz2p, zz3p⟩ := four Z6.out; clear hbb) | (go_at_call 20; refine (KG.out _).mono ?_; rintro _ w7 ⟨rfl, hbb⟩; have g7 := hid (below_step g6.out g6.out.size hbb); have A7 := hid (keep0 hbb A6.out); obtain ⟨aa0q, aa1q, aa2q, aa3q⟩ := four A7.out; have B7 := hid (keep0 hbb B6.out); obtain ⟨bb0q, bb1q, bb2q, bb3q⟩ := four B7.out; have Y7 := hid (keep0 hbb Y6.out); obtain ⟨yy0q, yy1q, yy2q, yy3q⟩ := four Y7.out; have Z7 := hid (keep0 hbb Z6.out); obtain ⟨zz0q, zz1q, zz2q, zz3q⟩ := four Z7.out; clear hbb))
      all_goals go_wp2
      all_goals go_returns
      all_goals exact ⟨by simp, g7.out⟩
  · obtain ⟨k12, k20, k16⟩ := hwell.out
    have K12 := hid k12
    have K20 := hid k20
    have K16 := hid k16
    clear k12 k20 k16
    go_wp2_with fail
    refine (K12.out _).mono ?_
    rintro _ w4 ⟨rfl, hbb⟩
    have g4 := hid ((below_step g3.out g3.out.size hbb).alloc (by have := g3.out.size; have := hbb.size; go_size) (.cells #[.int .i64 (A 0), .int .i64 (A 1), .int .i64 (A 2), .int .i64 (A 3)] 23))
    have A4 := hid (heapA (o := (.cells #[.int .i64 (A 0), .int .i64 (A 1), .int .i64 (A 2), .int .i64 (A 3)] 23)) (keep0 hbb A3.out))
    have B4 := hid (heapA (o := (.cells #[.int .i64 (A 0), .int .i64 (A 1), .int .i64 (A 2), .int .i64 (A 3)] 23)) (keep0 hbb B3.out))
    have C4 := hid (heapA (o := (.cells #[.int .i64 (A 0), .int .i64 (A 1), .int .i64 (A 2), .int .i64 (A 3)] 23)) (keep0 hbb C3.out))
    have X4 := hid (heapA (o := (.cells #[.int .i64 (A 0), .int .i64 (A 1), .int .i64 (A 2), .int .i64 (A 3)] 23)) (keep0 hbb X3.out))
    have S4 := hid (heap_new w4 (.cells #[.int .i64 (A 0), .int .i64 (A 1), .int .i64 (A 2), .int .i64 (A 3)] 23))
    clear hbb aa0 aa1 aa2 aa3 bb0 bb1 bb2 bb3 cc0 cc1 cc2 cc3 xx0 xx1 xx2 xx3 tt0 tt1 tt2 tt3
    obtain ⟨aa0, aa1, aa2, aa3⟩ := four A4.out
    obtain ⟨xx0, xx1, xx2, xx3⟩ := four X4.out
    obtain ⟨ss0, ss1, ss2, ss3⟩ := four S4.out
    go_wp2_with fail
    refine (K20.out _).mono ?_
    rintro _ w5 ⟨rfl, hbb⟩
    have g5 := hid (below_step g4.out g4.out.size hbb)
    have A5 := hid (keep0 hbb A4.out)
    have B5 := hid (keep0 hbb B4.out)
    have C5 := hid (keep0 hbb C4.out)
    have X5 := hid (keep0 hbb X4.out)
    clear hbb aa0 aa1 aa2 aa3 xx0 xx1 xx2 xx3 ss0 ss1 ss2 ss3
    obtain ⟨xx0, xx1, xx2, xx3⟩ := four X5.out
    go_wp2_with fail
    refine (K16.out _).mono ?_
    rintro _ w6 ⟨rfl, hbb⟩
    have g6 := hid (below_step g5.out g5.out.size hbb)
    have A6 := hid (keep0 hbb A5.out)
    have B6 := hid (keep0 hbb B5.out)
    have C6 := hid (keep0 hbb C5.out)
    clear hbb xx0 xx1 xx2 xx3
    obtain ⟨aa0, aa1, aa2, aa3⟩ := four A6.out
    obtain ⟨cc0, cc1, cc2, cc3⟩ := four C6.out
    go_wp2_with fail
    refine (K3.out _).mono ?_
    rintro _ w7 ⟨rfl, hbb⟩
    have g7 := hid ((below_step g6.out g6.out.size hbb).alloc (by have := g6.out.size; have := hbb.size; go_size) (.cells #[.int .i64 (Y 0), .int .i64 (Y 1), .int .i64 (Y 2), .int .i64 (Y 3)] 23))
    have A7 := hid (heapA (o := (.cells #[.int .i64 (Y 0), .int .i64 (Y 1), .int .i64 (Y 2), .int .i64 (Y 3)] 23)) (keep0 hbb A6.out))
    have B7 := hid (heapA (o := (.cells #[.int .i64 (Y 0), .int .i64 (Y 1), .int .i64 (Y 2), .int .i64 (Y 3)] 23)) (keep0 hbb B6.out))
    have C7 := hid (heapA (o := (.cells #[.int .i64 (Y 0), .int .i64 (Y 1), .int .i64 (Y 2), .int .i64 (Y 3)] 23)) (keep0 hbb C6.out))
    have Y7 := hid (heap_new w7 (.cells #[.int .i64 (Y 0), .int .i64 (Y 1), .int .i64 (Y 2), .int .i64 (Y 3)] 23))
    clear hbb aa0 aa1 aa2 aa3 cc0 cc1 cc2 cc3
    obtain ⟨bb0, bb1, bb2, bb3⟩ := four B7.out
    obtain ⟨cc0, cc1, cc2, cc3⟩ := four C7.out
    go_wp2_with fail
    refine (K4.out _).mono ?_
    rintro _ w8 ⟨rfl, hbb⟩
    have g8 := hid ((below_step g7.out g7.out.size hbb).alloc (by have := g7.out.size; have := hbb.size; go_size) (.cells #[.int .i64 (Z 0), .int .i64 (Z 1), .int .i64 (Z 2), .int .i64 (Z 3)] 23))
    have A8 := hid (heapA (o := (.cells #[.int .i64 (Z 0), .int .i64 (Z 1), .int .i64 (Z 2), .int .i64 (Z 3)] 23)) (keep0 hbb A7.out))
    have B8 := hid (heapA (o := (.cells #[.int .i64 (Z 0), .int .i64 (Z 1), .int .i64 (Z 2), .int .i64 (Z 3)] 23)) (keep0 hbb B7.out))
    have C8 := hid (heapA (o := (.cells #[.int .i64 (Z 0), .int .i64 (Z 1), .int .i64 (Z 2), .int .i64 (Z 3)] 23)) (keep0 hbb C7.out))
    have Y8 := hid (heapA (o := (.cells #[.int .i64 (Z 0), .int .i64 (Z 1), .int .i64 (Z 2), .int .i64 (Z 3)] 23)) (keep0 hbb Y7.out))
    have Z8 := hid (heap_new w8 (.cells #[.int .i64 (Z 0), .int .i64 (Z 1), .int .i64 (Z 2), .int .i64 (Z 3)] 23))
    clear hbb bb0 bb1 bb2 bb3 cc0 cc1 cc2 cc3
    obtain ⟨aa0, aa1, aa2, aa3⟩ := four A8.out
    obtain ⟨bb0, bb1, bb2, bb3⟩ := four B8.out
    obtain ⟨yy0, yy1, yy2, yy3⟩ := four Y8.out
    obtain ⟨zz0, zz1, zz2, zz3⟩ := four Z8.out
    rcases hT with hf | ⟨rfl, hg⟩ | ⟨rfl, rfl, fb, KF, KG⟩
    · have n1 : (f != 0) = true := by simp; omega
      go_wp2_with fail
      go_quiet (fail)
      go_wp2
      all_goals go_returns
      all_goals exact ⟨rfl, below_quiet g8.out _⟩
    · have n1 : (g != 0) = true := by simp; omega
      go_wp2_with fail
      go_quiet (fail)
      go_wp2
      all_goals go_returns
      all_goals exact ⟨rfl, below_quiet g8.out _⟩
    · have KF := hid KF
      have KG := hid KG
      go_wp2_with fail
      go_region_held3 (fun w' => (w'.cell? ⟨W.heap.size, 0, none⟩ = some (.int .i64 (A 0)) ∧ w'.cell? ⟨W.heap.size, 1, none⟩ = some (.int .i64 (A 1)) ∧ w'.cell? ⟨W.heap.size, 2, none⟩ = some (.int .i64 (A 2)) ∧ w'.cell? ⟨W.heap.size, 3, none⟩ = some (.int .i64 (A 3))) ∧ (w'.cell? ⟨W.heap.size + 1, 0, none⟩ = some (.int .i64 (B 0)) ∧ w'.cell? ⟨W.heap.size + 1, 1, none⟩ = some (.int .i64 (B 1)) ∧ w'.cell? ⟨W.heap.size + 1, 2, none⟩ = some (.int .i64 (B 2)) ∧ w'.cell? ⟨W.heap.size + 1, 3, none⟩ = some (.int .i64 (B 3))) ∧ (w'.cell? ⟨w7.heap.size, 0, none⟩ = some (.int .i64 (Y 0)) ∧ w'.cell? ⟨w7.heap.size, 1, none⟩ = some (.int .i64 (Y 1)) ∧ w'.cell? ⟨w7.heap.size, 2, none⟩ = some (.int .i64 (Y 2)) ∧ w'.cell? ⟨w7.heap.size, 3, none⟩ = some (.int .i64 (Y 3))) ∧ w'.cell? ⟨w8.heap.size, 0, none⟩ = some (.int .i64 (Z 0)) ∧ w'.cell? ⟨w8.heap.size, 1, none⟩ = some (.int .i64 (Z 1)) ∧ w'.cell? ⟨w8.heap.size, 2, none⟩ = some (.int .i64 (Z 2)) ∧ w'.cell? ⟨w8.heap.size, 3, none⟩ = some (.int .i64 (Z 3))) (first | exact ⟨⟨aa0, aa1, aa2, aa3⟩, ⟨bb0, bb1, bb2, bb3⟩, ⟨yy0, yy1, yy2, yy3⟩, zz0, zz1, zz2, zz3⟩ | exact ⟨⟨aa0p, aa1p, aa2p, aa3p⟩, ⟨bb0p, bb1p, bb2p, bb3p⟩, ⟨yy0p, yy1p, yy2p, yy3p⟩, zz0p, zz1p, zz2p, zz3p⟩ | exact ⟨⟨aa0q, aa1q, aa2q, aa3q⟩, ⟨bb0q, bb1q, bb2q, bb3q⟩, ⟨yy0q, yy1q, yy2q, yy3q⟩, zz0q, zz1q, zz2q, zz3q⟩ | go_keep) (first | (go_at_call 20; refine (KF.out _).mono ?_; rintro _ w9 ⟨rfl, hbb⟩; have g9 := hid (below_step g8.out g8.out.size (unD hbb)); have A9 := hid (keep0 (unD hbb) A8.out); obtain ⟨aa0p, aa1p, aa2p, aa3p⟩ := four A9.out; have B9 := hid (keep0 (unD hbb) B8.out); obtain ⟨bb0p, bb1p, bb2p, bb3p⟩ := four B9.out; have Y9 := hid (keep0 (unD hbb) Y8.out); obtain ⟨yy0p, yy1p, yy2p, yy3p⟩ := four Y9.out; have Z9 := hid (keep0 (unD hbb) Z8.out); obtain ⟨zz0p, zz1p, zz2p, zz3p⟩ := four Z9.out; clear hbb) | (go_at_call 20; refine (KG.out _).mono ?_; rintro _ w10 ⟨rfl, hbb⟩; have g10 := hid (below_step g9.out g9.out.size hbb); have A10 := hid (keep0 hbb A9.out); obtain ⟨aa0q, aa1q, aa2q, aa3q⟩ := four A10.out; have B10 := hid (keep0 hbb B9.out); obtain ⟨bb0q, bb1q, bb2q, bb3q⟩ := four B10.out; have Y10 := hid (keep0 hbb Y9.out); obtain ⟨yy0q, yy1q, yy2q, yy3q⟩ := four Y10.out; have Z10 := hid (keep0 hbb Z9.out); obtain ⟨zz0q, zz1q, zz2q, zz3q⟩ := four Z10.out; clear hbb))
      all_goals go_wp2
      all_goals go_returns
      all_goals exact ⟨by simp, g10.out⟩
end Go.Proofs.YtcflpclndjlchaaDoor
