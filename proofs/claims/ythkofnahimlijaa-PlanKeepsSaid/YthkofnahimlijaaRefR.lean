/- The reference's Right, Add, Sub, Least, Fits, called at any amounts: what vec tells. Condition: none. -/
import Derived.Test.YthkofnahimlijaaSums
namespace Go.Proofs.Ythkofnahimlijaa
open Go Go.RowKit
set_option maxHeartbeats 2000000 in
theorem rright_any (M : Nat → Int) (w : World) :
    Calls Try.prog 37 #[.agg #[.int .i64 (M 0), .int .i64 (M 1), .int .i64 (M 2), .int .i64 (M 3)]] w fun e w' => e = .returned (.bool (rightB M)) ∧ Below w.heap.size w w' := by
  have hF : ∀ i, i < 4 → (¬ 0 ≤ M i ∨ ¬ M i ≤ 1073741824) → rightB M = false := fun i hi h => by
    cases hb : rightB M with
    | false => rfl
    | true =>
      have := (rightB_iff M).1 hb i hi
      omega
  by_cases h0 : 0 ≤ M 0
  rotate_left
  · rw [hF 0 (by decide) (by omega)]
    clear hF
    go_enter Try.func37, Try.ntmps37
    go_wp2
    all_goals go_returns
    all_goals exact ⟨rfl, by go_grown⟩
  by_cases h1 : 0 ≤ M 1
  rotate_left
  · rw [hF 1 (by decide) (by omega)]
    clear hF
    go_enter Try.func37, Try.ntmps37
    go_wp2
    all_goals go_returns
    all_goals exact ⟨rfl, by go_grown⟩
  by_cases h2 : 0 ≤ M 2
  rotate_left
  · rw [hF 2 (by decide) (by omega)]
    clear hF
    go_enter Try.func37, Try.ntmps37
    go_wp2
    all_goals go_returns
    all_goals exact ⟨rfl, by go_grown⟩
  by_cases h3 : 0 ≤ M 3
  rotate_left
  · rw [hF 3 (by decide) (by omega)]
    clear hF
    go_enter Try.func37, Try.ntmps37
    go_wp2
    all_goals go_returns
    all_goals exact ⟨rfl, by go_grown⟩
  by_cases h4 : M 0 ≤ 1073741824
  rotate_left
  · rw [hF 0 (by decide) (by omega)]
    clear hF
    go_enter Try.func37, Try.ntmps37
    go_wp2
    all_goals go_returns
    all_goals exact ⟨rfl, by go_grown⟩
  by_cases h5 : M 1 ≤ 1073741824
  rotate_left
  · rw [hF 1 (by decide) (by omega)]
    clear hF
    go_enter Try.func37, Try.ntmps37
    go_wp2
    all_goals go_returns
    all_goals exact ⟨rfl, by go_grown⟩
  by_cases h6 : M 2 ≤ 1073741824
  rotate_left
  · rw [hF 2 (by decide) (by omega)]
    clear hF
    go_enter Try.func37, Try.ntmps37
    go_wp2
    all_goals go_returns
    all_goals exact ⟨rfl, by go_grown⟩
  by_cases h7 : M 3 ≤ 1073741824
  rotate_left
  · rw [hF 3 (by decide) (by omega)]
    clear hF
    go_enter Try.func37, Try.ntmps37
    go_wp2
    all_goals go_returns
    all_goals exact ⟨rfl, by go_grown⟩
  have e : rightB M = true := (rightB_iff M).2 fun i hi => by
    rcases (by omega : i = 0 ∨ i = 1 ∨ i = 2 ∨ i = 3) with rfl | rfl | rfl | rfl <;> omega
  rw [e]
  clear e
  clear hF
  go_enter Try.func37, Try.ntmps37
  go_wp2
  all_goals go_returns
  all_goals exact ⟨rfl, by go_grown⟩
theorem rright_is {M : Nat → Int} {b : Bool} (h : rightB M = b) (w : World) : Calls Try.prog 37 #[.agg #[.int .i64 (M 0), .int .i64 (M 1), .int .i64 (M 2), .int .i64 (M 3)]] w fun e w' => e = .returned (.bool b) ∧ Below w.heap.size w w' := by
  rw [← h]
  exact rright_any M w
end Go.Proofs.Ythkofnahimlijaa
