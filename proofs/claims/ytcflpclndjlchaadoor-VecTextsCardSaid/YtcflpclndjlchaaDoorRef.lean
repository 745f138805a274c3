/- The reference's sums, least and fits, called at any amounts: what vec tells. Condition: none. -/
import Derived.Test.YtcflpclndjlchaaDoorRefR
namespace Go.Proofs.YtcflpclndjlchaaDoor
open Go Go.RowKit

set_option maxHeartbeats 1000000 in
theorem radd_any (A B : Nat → Int) (w : World) :
    Calls Tryd.prog 11 #[.agg #[.int .i64 (A 0), .int .i64 (A 1), .int .i64 (A 2), .int .i64 (A 3)], .agg #[.int .i64 (B 0), .int .i64 (B 1), .int .i64 (B 2), .int .i64 (B 3)]] w fun en w' => en = .returned (.tuple #[.agg #[.int .i64 ((addF A B).1 0), .int .i64 ((addF A B).1 1), .int .i64 ((addF A B).1 2), .int .i64 ((addF A B).1 3)], .int .i64 (addF A B).2]) ∧ Below w.heap.size w w' := by
  have A0 := hid (show (((w.alloc (.cells #[.int .i64 (A 0), .int .i64 (A 1), .int .i64 (A 2), .int .i64 (A 3)] 23)).alloc (.cells #[.int .i64 (B 0), .int .i64 (B 1), .int .i64 (B 2), .int .i64 (B 3)] 23)).alloc (.cells #[.int .i64 0, .int .i64 0, .int .i64 0, .int .i64 0] 23)).heap[w.heap.size]? = some (.cells #[.int .i64 (A 0), .int .i64 (A 1), .int .i64 (A 2), .int .i64 (A 3)] 23) from heapA (heapA (heap_new w _)))
  have B0 := hid (show (((w.alloc (.cells #[.int .i64 (A 0), .int .i64 (A 1), .int .i64 (A 2), .int .i64 (A 3)] 23)).alloc (.cells #[.int .i64 (B 0), .int .i64 (B 1), .int .i64 (B 2), .int .i64 (B 3)] 23)).alloc (.cells #[.int .i64 0, .int .i64 0, .int .i64 0, .int .i64 0] 23)).heap[w.heap.size + 1]? = some (.cells #[.int .i64 (B 0), .int .i64 (B 1), .int .i64 (B 2), .int .i64 (B 3)] 23) from heapA (by simpa using heap_new (w.alloc (.cells #[.int .i64 (A 0), .int .i64 (A 1), .int .i64 (A 2), .int .i64 (A 3)] 23)) (.cells #[.int .i64 (B 0), .int .i64 (B 1), .int .i64 (B 2), .int .i64 (B 3)] 23)))
  have R0 := hid (show (((w.alloc (.cells #[.int .i64 (A 0), .int .i64 (A 1), .int .i64 (A 2), .int .i64 (A 3)] 23)).alloc (.cells #[.int .i64 (B 0), .int .i64 (B 1), .int .i64 (B 2), .int .i64 (B 3)] 23)).alloc (.cells #[.int .i64 0, .int .i64 0, .int .i64 0, .int .i64 0] 23)).heap[w.heap.size + 1 + 1]? = some (.cells #[.int .i64 0, .int .i64 0, .int .i64 0, .int .i64 0] 23) from by simpa using heap_new ((w.alloc (.cells #[.int .i64 (A 0), .int .i64 (A 1), .int .i64 (A 2), .int .i64 (A 3)] 23)).alloc (.cells #[.int .i64 (B 0), .int .i64 (B 1), .int .i64 (B 2), .int .i64 (B 3)] 23)) (.cells #[.int .i64 0, .int .i64 0, .int .i64 0, .int .i64 0] 23))
  have g0 := hid (show Below w.heap.size w (((w.alloc (.cells #[.int .i64 (A 0), .int .i64 (A 1), .int .i64 (A 2), .int .i64 (A 3)] 23)).alloc (.cells #[.int .i64 (B 0), .int .i64 (B 1), .int .i64 (B 2), .int .i64 (B 3)] 23)).alloc (.cells #[.int .i64 0, .int .i64 0, .int .i64 0, .int .i64 0] 23)) from by go_grown)
  by_cases hA : rightB A = true
  · by_cases hB : rightB B = true
    · have KA := hid (rright_is hA)
      have KB := hid (rright_is hB)
      have bd : ∀ i, i < 4 → -9223372036854775808 ≤ A i + B i ∧ A i + B i ≤ 9223372036854775807 := fun i hi => by
        have h1 := (rightB_iff A).1 hA i hi
        have h2 := (rightB_iff B).1 hB i hi
        omega
      obtain ⟨p0, q0⟩ := bd 0 (by decide)
      obtain ⟨p1, q1⟩ := bd 1 (by decide)
      obtain ⟨p2, q2⟩ := bd 2 (by decide)
      obtain ⟨p3, q3⟩ := bd 3 (by decide)
      have ew : addF A B = withF (fun i => A i + B i) 30 := by rw [addF, if_pos ⟨hA, hB⟩]
      rw [ew]
      clear ew hA hB bd
      by_cases hS : rightB (fun i => A i + B i) = true
      · have ew : withF (fun i => A i + B i) 30 = (fun i => A i + B i, 0) := by rw [withF, if_pos hS]
        have KS : Hid (∀ w, Calls Tryd.prog 17 #[.agg #[.int .i64 (A 0 + B 0), .int .i64 (A 1 + B 1), .int .i64 (A 2 + B 2), .int .i64 (A 3 + B 3)]] w fun e w' => e = .returned (.bool true) ∧ Below w.heap.size w w') := hid (rright_is (M := fun i => A i + B i) hS)
        rw [ew]
        clear ew hS
        go_enter Tryd.func11, Tryd.ntmps11
        go_wp2_with fail
        refine (KA.out _).mono ?_
        rintro _ w2 ⟨rfl, hbb⟩
        have g2 := hid (below_step g0.out g0.out.size hbb)
        have A2 := hid (keep0 hbb A0.out)
        have B2 := hid (keep0 hbb B0.out)
        have R2 := hid (keep0 hbb R0.out)
        clear hbb A0 B0 R0 g0
        obtain ⟨b0, b1, b2, b3⟩ := four B2.out
        go_wp2_with fail
        refine (KB.out _).mono ?_
        rintro _ w3 ⟨rfl, hbb⟩
        have g3 := hid (below_step g2.out g2.out.size hbb)
        have A3 := hid (keep0 hbb A2.out)
        have B3 := hid (keep0 hbb B2.out)
        have R3 := hid (keep0 hbb R2.out)
        clear hbb A2 B2 R2 g2 b0 b1 b2 b3
        obtain ⟨a0, a1, a2, a3⟩ := four A3.out
        obtain ⟨b0, b1, b2, b3⟩ := four B3.out
        go_wp2_with fail
        refine (KS.out _).mono ?_
        rintro _ w5 ⟨rfl, hbb⟩
        have g5 := hid (below_step (g3.out.alloc g3.out.size (.cells #[.int .i64 (A 0 + B 0), .int .i64 (A 1 + B 1), .int .i64 (A 2 + B 2), .int .i64 (A 3 + B 3)] 23)) (by have := g3.out.size; go_size) hbb)
        have R5 := hid (keepA hbb R3.out)
        have X5 := hid (newA hbb)
        clear hbb A3 B3 R3 g3 a0 a1 a2 a3 b0 b1 b2 b3
        obtain ⟨a0, a1, a2, a3⟩ := four X5.out
        obtain ⟨b0, b1, b2, b3⟩ := four R5.out
        obtain ⟨f0, f1, f2, f3⟩ := fourF R5.out
        go_wp2_with fail
        exact bodyPost_ret (v := .tuple #[.agg #[.int .i64 (A 0 + B 0), .int .i64 (A 1 + B 1), .int .i64 (A 2 + B 2), .int .i64 (A 3 + B 3)], .int .i64 0]) (results_row_tmp Tryd.results11 _ _ (w.heap.size + 1 + 1) 23 _ (0, 0) _ _ rfl rfl (four_set _ _ _ _ R5.out) Tryd.underlying23 rfl (by kernel_rfl)) rfl ⟨rfl, four_below _ _ _ _ g5.out (by omega)⟩
      · have hS' : rightB (fun i => A i + B i) = false := by simpa using hS
        have ew : withF (fun i => A i + B i) 30 = (fun _ => 0, 30) := by rw [withF, if_neg hS]
        have KS : Hid (∀ w, Calls Tryd.prog 17 #[.agg #[.int .i64 (A 0 + B 0), .int .i64 (A 1 + B 1), .int .i64 (A 2 + B 2), .int .i64 (A 3 + B 3)]] w fun e w' => e = .returned (.bool false) ∧ Below w.heap.size w w') := hid (rright_is (M := fun i => A i + B i) hS')
        rw [ew]
        clear ew hS hS'
        go_enter Tryd.func11, Tryd.ntmps11
        go_wp2_with fail
        refine (KA.out _).mono ?_
        rintro _ w2 ⟨rfl, hbb⟩
        have g2 := hid (below_step g0.out g0.out.size hbb)
        have A2 := hid (keep0 hbb A0.out)
        have B2 := hid (keep0 hbb B0.out)
        have R2 := hid (keep0 hbb R0.out)
        clear hbb A0 B0 R0 g0
        obtain ⟨b0, b1, b2, b3⟩ := four B2.out
        go_wp2_with fail
        refine (KB.out _).mono ?_
        rintro _ w3 ⟨rfl, hbb⟩
        have g3 := hid (below_step g2.out g2.out.size hbb)
        have A3 := hid (keep0 hbb A2.out)
        have B3 := hid (keep0 hbb B2.out)
        have R3 := hid (keep0 hbb R2.out)
        clear hbb A2 B2 R2 g2 b0 b1 b2 b3
        obtain ⟨a0, a1, a2, a3⟩ := four A3.out
        obtain ⟨b0, b1, b2, b3⟩ := four B3.out
        go_wp2_with fail
        refine (KS.out _).mono ?_
        rintro _ w5 ⟨rfl, hbb⟩
        have g5 := hid (below_step (g3.out.alloc g3.out.size (.cells #[.int .i64 (A 0 + B 0), .int .i64 (A 1 + B 1), .int .i64 (A 2 + B 2), .int .i64 (A 3 + B 3)] 23)) (by have := g3.out.size; go_size) hbb)
        have R5 := hid (keepA hbb R3.out)
        have X5 := hid (newA hbb)
        clear hbb A3 B3 R3 g3 a0 a1 a2 a3 b0 b1 b2 b3
        obtain ⟨a0, a1, a2, a3⟩ := four X5.out
        obtain ⟨b0, b1, b2, b3⟩ := four R5.out
        obtain ⟨f0, f1, f2, f3⟩ := fourF R5.out
        go_wp2_with fail
        exact bodyPost_ret (v := .tuple #[.agg #[.int .i64 0, .int .i64 0, .int .i64 0, .int .i64 0], .int .i64 30]) (results_row_tmp Tryd.results11 _ _ (w.heap.size + 1 + 1) 23 _ (0, 0) _ _ rfl rfl (four_set _ _ _ _ R5.out) Tryd.underlying23 rfl (by kernel_rfl)) rfl ⟨rfl, four_below _ _ _ _ g5.out (by omega)⟩
    · have hB' : rightB B = false := by simpa using hB
      have KA := hid (rright_is hA)
      have KB := hid (rright_is hB')
      have ew : addF A B = (fun _ => 0, 1) := by rw [addF, if_neg (fun h => hB h.2)]
      rw [ew]
      clear ew hA hB hB'
      go_enter Tryd.func11, Tryd.ntmps11
      go_wp2_with fail
      refine (KA.out _).mono ?_
      rintro _ w2 ⟨rfl, hbb⟩
      have g2 := hid (below_step g0.out g0.out.size hbb)
      have B2 := hid (keep0 hbb B0.out)
      have R2 := hid (keep0 hbb R0.out)
      clear hbb A0 B0 R0 g0
      obtain ⟨b0, b1, b2, b3⟩ := four B2.out
      go_wp2_with fail
      refine (KB.out _).mono ?_
      rintro _ w3 ⟨rfl, hbb⟩
      have g3 := hid (below_step g2.out g2.out.size hbb)
      have R3 := hid (keep0 hbb R2.out)
      clear hbb B2 R2 g2 b0 b1 b2 b3
      obtain ⟨b0, b1, b2, b3⟩ := four R3.out
      obtain ⟨f0, f1, f2, f3⟩ := fourF R3.out
      go_wp2_with fail
      all_goals exact bodyPost_ret (v := .tuple #[.agg #[.int .i64 0, .int .i64 0, .int .i64 0, .int .i64 0], .int .i64 1]) (results_row_tmp Tryd.results11 _ _ (w.heap.size + 1 + 1) 23 _ (0, 0) _ _ rfl rfl (four_set _ _ _ _ R3.out) Tryd.underlying23 rfl (by kernel_rfl)) rfl ⟨rfl, four_below _ _ _ _ g3.out (by omega)⟩
  · have hA' : rightB A = false := by simpa using hA
    have KA := hid (rright_is hA')
    have KB := hid (rright_any B)
    have ew : addF A B = (fun _ => 0, 1) := by rw [addF, if_neg (fun h => hA h.1)]
    rw [ew]
    generalize rightB B = rb at *
    clear ew hA hA'
    go_enter Tryd.func11, Tryd.ntmps11
    go_wp2_with fail
    refine (KA.out _).mono ?_
    rintro _ w2 ⟨rfl, hbb⟩
    have g2 := hid (below_step g0.out g0.out.size hbb)
    have B2 := hid (keep0 hbb B0.out)
    have R2 := hid (keep0 hbb R0.out)
    clear hbb A0 B0 R0 g0
    obtain ⟨b0, b1, b2, b3⟩ := four B2.out
    go_wp2_with fail
    refine (KB.out _).mono ?_
    rintro _ w3 ⟨rfl, hbb⟩
    have g3 := hid (below_step g2.out g2.out.size hbb)
    have R3 := hid (keep0 hbb R2.out)
    clear hbb B2 R2 g2 b0 b1 b2 b3
    obtain ⟨b0, b1, b2, b3⟩ := four R3.out
    obtain ⟨f0, f1, f2, f3⟩ := fourF R3.out
    go_wp2_with fail
    all_goals exact bodyPost_ret (v := .tuple #[.agg #[.int .i64 0, .int .i64 0, .int .i64 0, .int .i64 0], .int .i64 1]) (results_row_tmp Tryd.results11 _ _ (w.heap.size + 1 + 1) 23 _ (0, 0) _ _ rfl rfl (four_set _ _ _ _ R3.out) Tryd.underlying23 rfl (by kernel_rfl)) rfl ⟨rfl, four_below _ _ _ _ g3.out (by omega)⟩

set_option maxHeartbeats 1000000 in
theorem rsub_any (A B : Nat → Int) (w : World) :
    Calls Tryd.prog 13 #[.agg #[.int .i64 (A 0), .int .i64 (A 1), .int .i64 (A 2), .int .i64 (A 3)], .agg #[.int .i64 (B 0), .int .i64 (B 1), .int .i64 (B 2), .int .i64 (B 3)]] w fun en w' => en = .returned (.tuple #[.agg #[.int .i64 ((subF A B).1 0), .int .i64 ((subF A B).1 1), .int .i64 ((subF A B).1 2), .int .i64 ((subF A B).1 3)], .int .i64 (subF A B).2]) ∧ Below w.heap.size w w' := by
  have A0 := hid (show (((w.alloc (.cells #[.int .i64 (A 0), .int .i64 (A 1), .int .i64 (A 2), .int .i64 (A 3)] 23)).alloc (.cells #[.int .i64 (B 0), .int .i64 (B 1), .int .i64 (B 2), .int .i64 (B 3)] 23)).alloc (.cells #[.int .i64 0, .int .i64 0, .int .i64 0, .int .i64 0] 23)).heap[w.heap.size]? = some (.cells #[.int .i64 (A 0), .int .i64 (A 1), .int .i64 (A 2), .int .i64 (A 3)] 23) from heapA (heapA (heap_new w _)))
  have B0 := hid (show (((w.alloc (.cells #[.int .i64 (A 0), .int .i64 (A 1), .int .i64 (A 2), .int .i64 (A 3)] 23)).alloc (.cells #[.int .i64 (B 0), .int .i64 (B 1), .int .i64 (B 2), .int .i64 (B 3)] 23)).alloc (.cells #[.int .i64 0, .int .i64 0, .int .i64 0, .int .i64 0] 23)).heap[w.heap.size + 1]? = some (.cells #[.int .i64 (B 0), .int .i64 (B 1), .int .i64 (B 2), .int .i64 (B 3)] 23) from heapA (by simpa using heap_new (w.alloc (.cells #[.int .i64 (A 0), .int .i64 (A 1), .int .i64 (A 2), .int .i64 (A 3)] 23)) (.cells #[.int .i64 (B 0), .int .i64 (B 1), .int .i64 (B 2), .int .i64 (B 3)] 23)))
  have R0 := hid (show (((w.alloc (.cells #[.int .i64 (A 0), .int .i64 (A 1), .int .i64 (A 2), .int .i64 (A 3)] 23)).alloc (.cells #[.int .i64 (B 0), .int .i64 (B 1), .int .i64 (B 2), .int .i64 (B 3)] 23)).alloc (.cells #[.int .i64 0, .int .i64 0, .int .i64 0, .int .i64 0] 23)).heap[w.heap.size + 1 + 1]? = some (.cells #[.int .i64 0, .int .i64 0, .int .i64 0, .int .i64 0] 23) from by simpa using heap_new ((w.alloc (.cells #[.int .i64 (A 0), .int .i64 (A 1), .int .i64 (A 2), .int .i64 (A 3)] 23)).alloc (.cells #[.int .i64 (B 0), .int .i64 (B 1), .int .i64 (B 2), .int .i64 (B 3)] 23)) (.cells #[.int .i64 0, .int .i64 0, .int .i64 0, .int .i64 0] 23))
  have g0 := hid (show Below w.heap.size w (((w.alloc (.cells #[.int .i64 (A 0), .int .i64 (A 1), .int .i64 (A 2), .int .i64 (A 3)] 23)).alloc (.cells #[.int .i64 (B 0), .int .i64 (B 1), .int .i64 (B 2), .int .i64 (B 3)] 23)).alloc (.cells #[.int .i64 0, .int .i64 0, .int .i64 0, .int .i64 0] 23)) from by go_grown)
  by_cases hA : rightB A = true
  · by_cases hB : rightB B = true
    · have KA := hid (rright_is hA)
      have KB := hid (rright_is hB)
      have bd : ∀ i, i < 4 → -9223372036854775808 ≤ A i - B i ∧ A i - B i ≤ 9223372036854775807 := fun i hi => by
        have h1 := (rightB_iff A).1 hA i hi
        have h2 := (rightB_iff B).1 hB i hi
        omega
      obtain ⟨p0, q0⟩ := bd 0 (by decide)
      obtain ⟨p1, q1⟩ := bd 1 (by decide)
      obtain ⟨p2, q2⟩ := bd 2 (by decide)
      obtain ⟨p3, q3⟩ := bd 3 (by decide)
      have ew : subF A B = withF (fun i => A i - B i) 31 := by rw [subF, if_pos ⟨hA, hB⟩]
      rw [ew]
      clear ew hA hB bd
      by_cases hS : rightB (fun i => A i - B i) = true
      · have ew : withF (fun i => A i - B i) 31 = (fun i => A i - B i, 0) := by rw [withF, if_pos hS]
        have KS : Hid (∀ w, Calls Tryd.prog 17 #[.agg #[.int .i64 (A 0 - B 0), .int .i64 (A 1 - B 1), .int .i64 (A 2 - B 2), .int .i64 (A 3 - B 3)]] w fun e w' => e = .returned (.bool true) ∧ Below w.heap.size w w') := hid (rright_is (M := fun i => A i - B i) hS)
        rw [ew]
        clear ew hS
        go_enter Tryd.func13, Tryd.ntmps13
        go_wp2_with fail
        refine (KA.out _).mono ?_
        rintro _ w2 ⟨rfl, hbb⟩
        have g2 := hid (below_step g0.out g0.out.size hbb)
        have A2 := hid (keep0 hbb A0.out)
        have B2 := hid (keep0 hbb B0.out)
        have R2 := hid (keep0 hbb R0.out)
        clear hbb A0 B0 R0 g0
        obtain ⟨b0, b1, b2, b3⟩ := four B2.out
        go_wp2_with fail
        refine (KB.out _).mono ?_
        rintro _ w3 ⟨rfl, hbb⟩
        have g3 := hid (below_step g2.out g2.out.size hbb)
        have A3 := hid (keep0 hbb A2.out)
        have B3 := hid (keep0 hbb B2.out)
        have R3 := hid (keep0 hbb R2.out)
        clear hbb A2 B2 R2 g2 b0 b1 b2 b3
        obtain ⟨a0, a1, a2, a3⟩ := four A3.out
        obtain ⟨b0, b1, b2, b3⟩ := four B3.out
        go_wp2_with fail
        refine (KS.out _).mono ?_
        rintro _ w5 ⟨rfl, hbb⟩
        have g5 := hid (below_step (g3.out.alloc g3.out.size (.cells #[.int .i64 (A 0 - B 0), .int .i64 (A 1 - B 1), .int .i64 (A 2 - B 2), .int .i64 (A 3 - B 3)] 23)) (by have := g3.out.size; go_size) hbb)
        have R5 := hid (keepA hbb R3.out)
        have X5 := hid (newA hbb)
        clear hbb A3 B3 R3 g3 a0 a1 a2 a3 b0 b1 b2 b3
        obtain ⟨a0, a1, a2, a3⟩ := four X5.out
        obtain ⟨b0, b1, b2, b3⟩ := four R5.out
        obtain ⟨f0, f1, f2, f3⟩ := fourF R5.out
        go_wp2_with fail
        exact bodyPost_ret (v := .tuple #[.agg #[.int .i64 (A 0 - B 0), .int .i64 (A 1 - B 1), .int .i64 (A 2 - B 2), .int .i64 (A 3 - B 3)], .int .i64 0]) (results_row_tmp Tryd.results13 _ _ (w.heap.size + 1 + 1) 23 _ (0, 0) _ _ rfl rfl (four_set _ _ _ _ R5.out) Tryd.underlying23 rfl (by kernel_rfl)) rfl ⟨rfl, four_below _ _ _ _ g5.out (by omega)⟩
      · have hS' : rightB (fun i => A i - B i) = false := by simpa using hS
        have ew : withF (fun i => A i - B i) 31 = (fun _ => 0, 31) := by rw [withF, if_neg hS]
        have KS : Hid (∀ w, Calls Tryd.prog 17 #[.agg #[.int .i64 (A 0 - B 0), .int .i64 (A 1 - B 1), .int .i64 (A 2 - B 2), .int .i64 (A 3 - B 3)]] w fun e w' => e = .returned (.bool false) ∧ Below w.heap.size w w') := hid (rright_is (M := fun i => A i - B i) hS')
        rw [ew]
        clear ew hS hS'
        go_enter Tryd.func13, Tryd.ntmps13
        go_wp2_with fail
        refine (KA.out _).mono ?_
        rintro _ w2 ⟨rfl, hbb⟩
        have g2 := hid (below_step g0.out g0.out.size hbb)
        have A2 := hid (keep0 hbb A0.out)
        have B2 := hid (keep0 hbb B0.out)
        have R2 := hid (keep0 hbb R0.out)
        clear hbb A0 B0 R0 g0
        obtain ⟨b0, b1, b2, b3⟩ := four B2.out
        go_wp2_with fail
        refine (KB.out _).mono ?_
        rintro _ w3 ⟨rfl, hbb⟩
        have g3 := hid (below_step g2.out g2.out.size hbb)
        have A3 := hid (keep0 hbb A2.out)
        have B3 := hid (keep0 hbb B2.out)
        have R3 := hid (keep0 hbb R2.out)
        clear hbb A2 B2 R2 g2 b0 b1 b2 b3
        obtain ⟨a0, a1, a2, a3⟩ := four A3.out
        obtain ⟨b0, b1, b2, b3⟩ := four B3.out
        go_wp2_with fail
        refine (KS.out _).mono ?_
        rintro _ w5 ⟨rfl, hbb⟩
        have g5 := hid (below_step (g3.out.alloc g3.out.size (.cells #[.int .i64 (A 0 - B 0), .int .i64 (A 1 - B 1), .int .i64 (A 2 - B 2), .int .i64 (A 3 - B 3)] 23)) (by have := g3.out.size; go_size) hbb)
        have R5 := hid (keepA hbb R3.out)
        have X5 := hid (newA hbb)
        clear hbb A3 B3 R3 g3 a0 a1 a2 a3 b0 b1 b2 b3
        obtain ⟨a0, a1, a2, a3⟩ := four X5.out
        obtain ⟨b0, b1, b2, b3⟩ := four R5.out
        obtain ⟨f0, f1, f2, f3⟩ := fourF R5.out
        go_wp2_with fail
        exact bodyPost_ret (v := .tuple #[.agg #[.int .i64 0, .int .i64 0, .int .i64 0, .int .i64 0], .int .i64 31]) (results_row_tmp Tryd.results13 _ _ (w.heap.size + 1 + 1) 23 _ (0, 0) _ _ rfl rfl (four_set _ _ _ _ R5.out) Tryd.underlying23 rfl (by kernel_rfl)) rfl ⟨rfl, four_below _ _ _ _ g5.out (by omega)⟩
    · have hB' : rightB B = false := by simpa using hB
      have KA := hid (rright_is hA)
      have KB := hid (rright_is hB')
      have ew : subF A B = (fun _ => 0, 1) := by rw [subF, if_neg (fun h => hB h.2)]
      rw [ew]
      clear ew hA hB hB'
      go_enter Tryd.func13, Tryd.ntmps13
      go_wp2_with fail
      refine (KA.out _).mono ?_
      rintro _ w2 ⟨rfl, hbb⟩
      have g2 := hid (below_step g0.out g0.out.size hbb)
      have B2 := hid (keep0 hbb B0.out)
      have R2 := hid (keep0 hbb R0.out)
      clear hbb A0 B0 R0 g0
      obtain ⟨b0, b1, b2, b3⟩ := four B2.out
      go_wp2_with fail
      refine (KB.out _).mono ?_
      rintro _ w3 ⟨rfl, hbb⟩
      have g3 := hid (below_step g2.out g2.out.size hbb)
      have R3 := hid (keep0 hbb R2.out)
      clear hbb B2 R2 g2 b0 b1 b2 b3
      obtain ⟨b0, b1, b2, b3⟩ := four R3.out
      obtain ⟨f0, f1, f2, f3⟩ := fourF R3.out
      go_wp2_with fail
      all_goals exact bodyPost_ret (v := .tuple #[.agg #[.int .i64 0, .int .i64 0, .int .i64 0, .int .i64 0], .int .i64 1]) (results_row_tmp Tryd.results13 _ _ (w.heap.size + 1 + 1) 23 _ (0, 0) _ _ rfl rfl (four_set _ _ _ _ R3.out) Tryd.underlying23 rfl (by kernel_rfl)) rfl ⟨rfl, four_below _ _ _ _ g3.out (by omega)⟩
  · have hA' : rightB A = false := by simpa using hA
    have KA := hid (rright_is hA')
    have KB := hid (rright_any B)
    have ew : subF A B = (fun _ => 0, 1) := by rw [subF, if_neg (fun h => hA h.1)]
    rw [ew]
    generalize rightB B = rb at *
    clear ew hA hA'
    go_enter Tryd.func13, Tryd.ntmps13
    go_wp2_with fail
    refine (KA.out _).mono ?_
    rintro _ w2 ⟨rfl, hbb⟩
    have g2 := hid (below_step g0.out g0.out.size hbb)
    have B2 := hid (keep0 hbb B0.out)
    have R2 := hid (keep0 hbb R0.out)
    clear hbb A0 B0 R0 g0
    obtain ⟨b0, b1, b2, b3⟩ := four B2.out
    go_wp2_with fail
    refine (KB.out _).mono ?_
    rintro _ w3 ⟨rfl, hbb⟩
    have g3 := hid (below_step g2.out g2.out.size hbb)
    have R3 := hid (keep0 hbb R2.out)
    clear hbb B2 R2 g2 b0 b1 b2 b3
    obtain ⟨b0, b1, b2, b3⟩ := four R3.out
    obtain ⟨f0, f1, f2, f3⟩ := fourF R3.out
    go_wp2_with fail
    all_goals exact bodyPost_ret (v := .tuple #[.agg #[.int .i64 0, .int .i64 0, .int .i64 0, .int .i64 0], .int .i64 1]) (results_row_tmp Tryd.results13 _ _ (w.heap.size + 1 + 1) 23 _ (0, 0) _ _ rfl rfl (four_set _ _ _ _ R3.out) Tryd.underlying23 rfl (by kernel_rfl)) rfl ⟨rfl, four_below _ _ _ _ g3.out (by omega)⟩
end Go.Proofs.YtcflpclndjlchaaDoor
