/- share.plain, nothing, unbound, and the reference's Plain and height, called at any shares: what they return. Conditions: none. -/
import Derived.Test.YtafcajojepigiaaProg
import Derived.Test.YtafcajojepigiaaKit
namespace Go.Proofs.Ytafcajojepigiaa
open Go Go.RowKit
def pl (n d : Int) : Int × Int := if n ≤ 0 then (0, 1) else if d ≤ 0 then (1, 0) else (n, d)
theorem nothing_any (w : World) : Calls Try.prog 31 #[] w fun e w' => e = .returned (.agg #[.int .i64 0, .int .i64 1]) ∧ w.alloc (.cells #[.int .i64 0, .int .i64 1] 23) = w' := by
  go_enter Try.func31, Try.ntmps31
  go_wp2
  go_returns
  exact ⟨rfl, rfl⟩
theorem unbound_any (w : World) : Calls Try.prog 22 #[] w fun e w' => e = .returned (.agg #[.int .i64 1, .int .i64 0]) ∧ w.alloc (.cells #[.int .i64 1, .int .i64 0] 23) = w' := by
  go_enter Try.func22, Try.ntmps22
  go_wp2
  go_returns
  exact ⟨rfl, rfl⟩
theorem plain_any (n d : Int) (w : World) : Calls Try.prog 21 #[.agg #[.int .i64 n, .int .i64 d]] w fun e w' => e = .returned (.agg #[.int .i64 (pl n d).1, .int .i64 (pl n d).2]) ∧ Below w.heap.size w w' := by
  rcases (by omega : n ≤ 0 ∨ (0 < n ∧ d ≤ 0) ∨ (0 < n ∧ 0 < d)) with hn | ⟨hn, hd⟩ | ⟨hn, hd⟩
  · have e : pl n d = (0, 1) := by simp [pl, hn]
    rw [e]
    clear e
    go_enter Try.func21, Try.ntmps21
    go_wp2_with (first | (go_at_call 31; refine (nothing_any _).mono ?_; rintro e w' ⟨rfl, rfl⟩) | (go_at_call 22; refine (unbound_any _).mono ?_; rintro e w' ⟨rfl, rfl⟩))
    all_goals go_returns
    all_goals exact ⟨rfl, by go_grown⟩
  · have e : pl n d = (1, 0) := by simp [pl, hd]; omega
    rw [e]
    clear e
    go_enter Try.func21, Try.ntmps21
    go_wp2_with (first | (go_at_call 31; refine (nothing_any _).mono ?_; rintro e w' ⟨rfl, rfl⟩) | (go_at_call 22; refine (unbound_any _).mono ?_; rintro e w' ⟨rfl, rfl⟩))
    all_goals go_returns
    all_goals exact ⟨rfl, by go_grown⟩
  · have e : pl n d = (n, d) := by rw [pl, if_neg (by omega), if_neg (by omega)]
    rw [e]
    clear e
    go_enter Try.func21, Try.ntmps21
    go_wp2_with (first | (go_at_call 31; refine (nothing_any _).mono ?_; rintro e w' ⟨rfl, rfl⟩) | (go_at_call 22; refine (unbound_any _).mono ?_; rintro e w' ⟨rfl, rfl⟩))
    all_goals go_returns
    all_goals exact ⟨rfl, by go_grown⟩
end Go.Proofs.Ytafcajojepigiaa
