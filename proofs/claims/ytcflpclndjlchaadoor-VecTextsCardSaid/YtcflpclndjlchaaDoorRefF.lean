/- The reference's sums, least and fits, called at any amounts: what vec tells. Condition: none. -/
import Derived.Test.YtcflpclndjlchaaDoorTimes
namespace Go.Proofs.YtcflpclndjlchaaDoor
open Go Go.RowKit

set_option maxHeartbeats 2000000 in
theorem rleast_any (A B : Nat → Int) (w : World) :
    Calls Tryd.prog 19 #[.agg #[.int .i64 (A 0), .int .i64 (A 1), .int .i64 (A 2), .int .i64 (A 3)], .agg #[.int .i64 (B 0), .int .i64 (B 1), .int .i64 (B 2), .int .i64 (B 3)]] w fun en w' => en = .returned (.agg #[.int .i64 (mnF A B 0), .int .i64 (mnF A B 1), .int .i64 (mnF A B 2), .int .i64 (mnF A B 3)]) ∧ Below w.heap.size w w' := by
  have R0 := hid (show (((w.alloc (.cells #[.int .i64 (A 0), .int .i64 (A 1), .int .i64 (A 2), .int .i64 (A 3)] 23)).alloc (.cells #[.int .i64 (B 0), .int .i64 (B 1), .int .i64 (B 2), .int .i64 (B 3)] 23)).alloc (.cells #[.int .i64 0, .int .i64 0, .int .i64 0, .int .i64 0] 23)).heap[w.heap.size + 1 + 1]? = some (.cells #[.int .i64 0, .int .i64 0, .int .i64 0, .int .i64 0] 23) from by simpa using heap_new ((w.alloc (.cells #[.int .i64 (A 0), .int .i64 (A 1), .int .i64 (A 2), .int .i64 (A 3)] 23)).alloc (.cells #[.int .i64 (B 0), .int .i64 (B 1), .int .i64 (B 2), .int .i64 (B 3)] 23)) (.cells #[.int .i64 0, .int .i64 0, .int .i64 0, .int .i64 0] 23))
  have g0 := hid (show Below w.heap.size w (((w.alloc (.cells #[.int .i64 (A 0), .int .i64 (A 1), .int .i64 (A 2), .int .i64 (A 3)] 23)).alloc (.cells #[.int .i64 (B 0), .int .i64 (B 1), .int .i64 (B 2), .int .i64 (B 3)] 23)).alloc (.cells #[.int .i64 0, .int .i64 0, .int .i64 0, .int .i64 0] 23)) from by go_grown)
  have hm : ∀ i, (B i < A i ∧ mnF A B i = B i) ∨ (¬ B i < A i ∧ mnF A B i = A i) := fun i => by
    unfold mnF
    split
    · exact .inl ⟨by assumption, rfl⟩
    · exact .inr ⟨by assumption, rfl⟩
  rcases hm 0 with ⟨h0, e0⟩ | ⟨h0, e0⟩ <;> rcases hm 1 with ⟨h1, e1⟩ | ⟨h1, e1⟩ <;> rcases hm 2 with ⟨h2, e2⟩ | ⟨h2, e2⟩ <;> rcases hm 3 with ⟨h3, e3⟩ | ⟨h3, e3⟩
  all_goals
    rw [e0, e1, e2, e3]
    clear hm e0 e1 e2 e3
    go_enter Tryd.func19, Tryd.ntmps19
    go_wp2
    all_goals go_returns
    all_goals exact ⟨rfl, by go_grown⟩
theorem fitsB_iff (A B : Nat → Int) : fitsB A B = true ↔ ∀ i, i < 4 → A i ≤ B i := by
  have k : ∀ i, (A i == mnF A B i) = true ↔ A i ≤ B i := fun i => by
    unfold mnF
    rw [beq_iff_eq]
    split <;> omega
  unfold fitsB eq4
  rw [Bool.and_eq_true, Bool.and_eq_true, Bool.and_eq_true, k, k, k, k]
  constructor
  · rintro ⟨h0, h1, h2, h3⟩ i hi
    rcases (by omega : i = 0 ∨ i = 1 ∨ i = 2 ∨ i = 3) with rfl | rfl | rfl | rfl
    · exact h0
    · exact h1
    · exact h2
    · exact h3
  · intro h
    exact ⟨h 0 (by decide), h 1 (by decide), h 2 (by decide), h 3 (by decide)⟩
set_option maxHeartbeats 2000000 in
theorem rfits_any (A B : Nat → Int) (w : World) :
    Calls Tryd.prog 21 #[.agg #[.int .i64 (A 0), .int .i64 (A 1), .int .i64 (A 2), .int .i64 (A 3)], .agg #[.int .i64 (B 0), .int .i64 (B 1), .int .i64 (B 2), .int .i64 (B 3)]] w fun en w' => en = .returned (.bool (fitsB A B)) ∧ Below w.heap.size w w' := by
  have hcases : (¬ A 0 ≤ B 0) ∨ (A 0 ≤ B 0 ∧ ¬ A 1 ≤ B 1) ∨ (A 0 ≤ B 0 ∧ A 1 ≤ B 1 ∧ ¬ A 2 ≤ B 2) ∨ (A 0 ≤ B 0 ∧ A 1 ≤ B 1 ∧ A 2 ≤ B 2 ∧ ¬ A 3 ≤ B 3) ∨ (A 0 ≤ B 0 ∧ A 1 ≤ B 1 ∧ A 2 ≤ B 2 ∧ A 3 ≤ B 3) := by omega
  have hF : ∀ i, i < 4 → ¬ A i ≤ B i → fitsB A B = false := fun i hi h => by
    cases hb : fitsB A B with
    | false => rfl
    | true => exact absurd ((fitsB_iff A B).1 hb i hi) h
  rcases hcases with h0 | ⟨h0, h1⟩ | ⟨h0, h1, h2⟩ | ⟨h0, h1, h2, h3⟩ | ⟨h0, h1, h2, h3⟩
  · rw [hF 0 (by decide) (by omega)]
    clear hF
    go_enter Tryd.func21, Tryd.ntmps21
    go_wp2
    all_goals go_returns
    all_goals exact ⟨rfl, by go_grown⟩
  · rw [hF 1 (by decide) (by omega)]
    clear hF
    go_enter Tryd.func21, Tryd.ntmps21
    go_wp2
    all_goals go_returns
    all_goals exact ⟨rfl, by go_grown⟩
  · rw [hF 2 (by decide) (by omega)]
    clear hF
    go_enter Tryd.func21, Tryd.ntmps21
    go_wp2
    all_goals go_returns
    all_goals exact ⟨rfl, by go_grown⟩
  · rw [hF 3 (by decide) (by omega)]
    clear hF
    go_enter Tryd.func21, Tryd.ntmps21
    go_wp2
    all_goals go_returns
    all_goals exact ⟨rfl, by go_grown⟩
  · have e : fitsB A B = true := (fitsB_iff A B).2 fun i hi => by
      rcases (by omega : i = 0 ∨ i = 1 ∨ i = 2 ∨ i = 3) with rfl | rfl | rfl | rfl <;> omega
    rw [e]
    clear e
    clear hF
    go_enter Tryd.func21, Tryd.ntmps21
    go_wp2
    all_goals go_returns
    all_goals exact ⟨rfl, by go_grown⟩
end Go.Proofs.YtcflpclndjlchaaDoor
