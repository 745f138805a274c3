/- The reference's sums, least and fits, called at any amounts: what vec tells. Condition: none. -/
import Derived.Test.YthkofnahimlijaaSums
namespace Go.Proofs.Ythkofnahimlijaa
open Go Go.RowKit
theorem fitsB_iff (A B : Nat → Int) : fitsB A B = true ↔ ∀ i, i < 4 → A i ≤ B i := by
  have k : ∀ i, (A i == mnF A B i) = true ↔ A i ≤ B i := fun i => by
    unfold mnF
    rw [beq_iff_eq]
    split <;> omega
  unfold fitsB eq4
  rw [Bool.and_eq_true, Bool.and_eq_true, Bool.and_eq_true, k, k, k, k]
  constructor
  · rintro ⟨h0, h1, h2, h3⟩ i hi
    rcases (by omega : i = 0 ∨ i = 1 ∨ i = 2 ∨ i = 3) with rfl | rfl | rfl | rfl
    · exact h0
    · exact h1
    · exact h2
    · exact h3
  · intro h
    exact ⟨h 0 (by decide), h 1 (by decide), h 2 (by decide), h 3 (by decide)⟩
set_option maxHeartbeats 2000000 in
theorem rfits_any (A B : Nat → Int) (w : World) :
    Calls Try.prog 72 #[.agg #[.int .i64 (A 0), .int .i64 (A 1), .int .i64 (A 2), .int .i64 (A 3)], .agg #[.int .i64 (B 0), .int .i64 (B 1), .int .i64 (B 2), .int .i64 (B 3)]] w fun en w' => en = .returned (.bool (fitsB A B)) ∧ Below w.heap.size w w' := by
  have hcases : (¬ A 0 ≤ B 0) ∨ (A 0 ≤ B 0 ∧ ¬ A 1 ≤ B 1) ∨ (A 0 ≤ B 0 ∧ A 1 ≤ B 1 ∧ ¬ A 2 ≤ B 2) ∨ (A 0 ≤ B 0 ∧ A 1 ≤ B 1 ∧ A 2 ≤ B 2 ∧ ¬ A 3 ≤ B 3) ∨ (A 0 ≤ B 0 ∧ A 1 ≤ B 1 ∧ A 2 ≤ B 2 ∧ A 3 ≤ B 3) := by omega
  have hF : ∀ i, i < 4 → ¬ A i ≤ B i → fitsB A B = false := fun i hi h => by
    cases hb : fitsB A B with
    | false => rfl
    | true => exact absurd ((fitsB_iff A B).1 hb i hi) h
  rcases hcases with h0 | ⟨h0, h1⟩ | ⟨h0, h1, h2⟩ | ⟨h0, h1, h2, h3⟩ | ⟨h0, h1, h2, h3⟩
  · rw [hF 0 (by decide) (by omega)]
    clear hF
    go_enter Try.func72, Try.ntmps72
    go_wp2
    all_goals go_returns
    all_goals exact ⟨rfl, by go_grown⟩
  · rw [hF 1 (by decide) (by omega)]
    clear hF
    go_enter Try.func72, Try.ntmps72
    go_wp2
    all_goals go_returns
    all_goals exact ⟨rfl, by go_grown⟩
  · rw [hF 2 (by decide) (by omega)]
    clear hF
    go_enter Try.func72, Try.ntmps72
    go_wp2
    all_goals go_returns
    all_goals exact ⟨rfl, by go_grown⟩
  · rw [hF 3 (by decide) (by omega)]
    clear hF
    go_enter Try.func72, Try.ntmps72
    go_wp2
    all_goals go_returns
    all_goals exact ⟨rfl, by go_grown⟩
  · have e : fitsB A B = true := (fitsB_iff A B).2 fun i hi => by
      rcases (by omega : i = 0 ∨ i = 1 ∨ i = 2 ∨ i = 3) with rfl | rfl | rfl | rfl <;> omega
    rw [e]
    clear e
    clear hF
    go_enter Try.func72, Try.ntmps72
    go_wp2
    all_goals go_returns
    all_goals exact ⟨rfl, by go_grown⟩
end Go.Proofs.Ythkofnahimlijaa
