/- The reference's Right at any life, and its Next's small parts. Conditions: none. -/
import Derived.Test.YtlfbooillhleoaaDoorRight
namespace Go.Proofs.YtlfbooillhleoaaDoor
open Go Go.RowKit
set_option maxHeartbeats 800000 in
theorem rright_any (s a l : Int) (b t : Bool) (w : World) :
    Calls Tryd.prog 14 #[.agg #[.int .i64 s, .int .i64 a, .int .i64 l, .bool b, .bool t]] w fun e w' => e = .returned (.bool (rightB s a l b t)) ∧ w.alloc (.cells #[.int .i64 s, .int .i64 a, .int .i64 l, .bool b, .bool t] 24) = w' := by
  by_cases hs : 1 ≤ s ∧ s ≤ 8
  · obtain ⟨h1, h8⟩ := hs
    rcases (by omega : s = 1 ∨ s = 2 ∨ s = 4 ∨ s = 8 ∨ (¬ s = 1 ∧ ¬ s = 2 ∧ ¬ s = 4 ∧ ¬ s = 8)) with rfl | rfl | rfl | rfl | ⟨g1, g2, g4, g8⟩
    rotate_left 4
    have f1 : (s == 1) = false := by simp; omega
    have f2 : (s == 2) = false := by simp; omega
    all_goals
      go_enter Tryd.func14, Tryd.ntmps14
      go_wp2
      all_goals go_returns
      all_goals exact ⟨right_end _ _ _ _ _ _ (by cases b <;> cases t <;> first | contradiction | (simp; done) | (simp; omega)), (by first | rfl | (subst_vars; rfl) | (simp_all; done))⟩
  · have hr : rightB s a l b t = false := by simp [rightB]; omega
    rw [hr]
    rcases (by omega : s < 1 ∨ (1 ≤ s ∧ 8 < s)) with h | ⟨h1, h8⟩
    · go_enter Tryd.func14, Tryd.ntmps14
      go_wp2
      go_returns
      exact ⟨rfl, rfl⟩
    · go_enter Tryd.func14, Tryd.ntmps14
      go_wp2
      go_returns
      exact ⟨rfl, rfl⟩
end Go.Proofs.YtlfbooillhleoaaDoor
