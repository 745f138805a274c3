/- The library's three-way comparison of two numbers, its Or of two, called at any values. Conditions: none. -/
import Derived.Test.YtafcajojepigiaaProg
import Derived.Test.YtafcajojepigiaaKit
namespace Go.Proofs.Ytafcajojepigiaa
open Go Go.RowKit
def sgn (x y : Int) : Int := if x < y then -1 else if y < x then 1 else 0
theorem nan_any (x : Int) (w : World) : Calls Try.prog 32 #[.int .u64 x] w fun e w' => e = .returned (.bool false) ∧ w = w' := by
  go_enter Try.func32, Try.ntmps32
  go_wp2
  go_returns
  exact ⟨by simp, rfl⟩
theorem sgn_any (x y : Int) (w : World) : Calls Try.prog 25 #[.int .u64 x, .int .u64 y] w fun e w' => e = .returned (.int .i64 (sgn x y)) ∧ w = w' := by
  rcases (by omega : x < y ∨ (¬ x < y ∧ y < x) ∨ (¬ x < y ∧ ¬ y < x)) with h | ⟨h, h'⟩ | ⟨h, h'⟩
  · have e : sgn x y = -1 := by simp [sgn, h]
    rw [e]
    clear e
    go_enter Try.func25, Try.ntmps25
    go_wp2_with (go_at_call 32; refine (nan_any _ _).mono ?_; rintro e w' ⟨rfl, rfl⟩)
    all_goals go_returns
    all_goals exact ⟨rfl, rfl⟩
  · have e : sgn x y = 1 := by rw [sgn, if_neg h, if_pos h']
    rw [e]
    clear e
    go_enter Try.func25, Try.ntmps25
    go_wp2_with (go_at_call 32; refine (nan_any _ _).mono ?_; rintro e w' ⟨rfl, rfl⟩)
    all_goals go_returns
    all_goals exact ⟨rfl, rfl⟩
  · have e : sgn x y = 0 := by rw [sgn, if_neg h, if_neg h']
    rw [e]
    clear e
    go_enter Try.func25, Try.ntmps25
    go_wp2_with (go_at_call 32; refine (nan_any _ _).mono ?_; rintro e w' ⟨rfl, rfl⟩)
    all_goals go_returns
    all_goals exact ⟨rfl, rfl⟩
def orI (a b : Int) : Int := if a = 0 then b else a
theorem or_any (a b : Int) (B : Nat) (w : World) (h0 : w.cell? ⟨B, 0, none⟩ = some (.int .i64 a)) (h1 : w.cell? ⟨B, 1, none⟩ = some (.int .i64 b)) :
    Calls Try.prog 24 #[.slice (some ⟨B, 0, none⟩) 2 2] w fun e w' => e = .returned (.int .i64 (orI a b)) ∧ w = w' := by
  by_cases ha : a = 0
  · by_cases hb : b = 0
    · subst ha
      subst hb
      have e : orI 0 0 = 0 := rfl
      rw [e]
      clear e
      go_enter Try.func24, Try.ntmps24
      go_wp2
      go_rounds 3
      all_goals go_wp2
      all_goals go_returns
      all_goals exact ⟨rfl, rfl⟩
    · subst ha
      have e : orI 0 b = b := rfl
      rw [e]
      clear e
      go_enter Try.func24, Try.ntmps24
      go_wp2
      go_rounds 3
      all_goals go_wp2
      all_goals go_returns
      all_goals exact ⟨rfl, rfl⟩
  · have e : orI a b = a := if_neg ha
    rw [e]
    clear e
    go_enter Try.func24, Try.ntmps24
    go_wp2
    go_rounds 3
    all_goals go_wp2
    all_goals go_returns
    all_goals exact ⟨rfl, rfl⟩
end Go.Proofs.Ytafcajojepigiaa
