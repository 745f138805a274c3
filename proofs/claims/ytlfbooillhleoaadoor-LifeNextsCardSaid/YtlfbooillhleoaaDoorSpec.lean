/- What Next gives, as a plain function; the reference's Next gives it. Condition: none. -/
import Derived.Test.YtlfbooillhleoaaDoorRRight
import Derived.Test.YtlfbooillhleoaaDoorFn
namespace Go.Proofs.YtlfbooillhleoaaDoor
open Go Go.RowKit

theorem right_bt {s a l : Int} {b t : Bool} (h : rightB s a l b t = true) (h4 : ¬ s = 4) : b = false ∧ t = false := by
  simp only [rightB, decide_eq_true_iff] at h
  obtain ⟨_, _, _, _, _, _, h7⟩ := h
  exact h7.resolve_left h4
theorem rlive_yes (s : Int) (w : World) (h : 3 ≤ s ∧ s ≤ 4) : Calls Tryd.prog 18 #[.int .i64 s] w fun e w' => e = .returned (.bool true) ∧ w = w' := by
  have hl : liveB s = true := by simp [liveB, h]
  rw [← hl]
  exact rlive_any s w
theorem rlive_no (s : Int) (w : World) (h : s < 3 ∨ 4 < s) : Calls Tryd.prog 18 #[.int .i64 s] w fun e w' => e = .returned (.bool false) ∧ w = w' := by
  have hl : liveB s = false := by simp [liveB]; omega
  rw [← hl]
  exact rlive_any s w
set_option maxHeartbeats 4000000 in
theorem rnext_any (s a l : Int) (b t : Bool) (sg : Int) (w : World) :
    Calls Tryd.prog 11 #[.agg #[.int .i64 s, .int .i64 a, .int .i64 l, .bool b, .bool t], .int .i64 sg] w fun e w' => e = .returned (rv (nextF s a l b t sg)) ∧ Below w.heap.size w w' := by
  cases hr : rightB s a l b t
  · have hn : nextF s a l b t sg = ⟨0, 0, 0, false, false, 1⟩ := by simp [nextF, hr]
    rw [hn]
    have K : ∀ W, Calls Tryd.prog 14 #[.agg #[.int .i64 s, .int .i64 a, .int .i64 l, .bool b, .bool t]] W fun e w' => e = .returned (.bool false) ∧ W.alloc (.cells #[.int .i64 s, .int .i64 a, .int .i64 l, .bool b, .bool t] 24) = w' := fun W => by rw [← hr]; exact rright_any s a l b t W
    have K' := hid K
    clear hn hr K
    go_enter Tryd.func11, Tryd.ntmps11
    go_wp2_with (go_at_call 14; refine (K'.out _).mono ?_; rintro e w1 ⟨rfl, rfl⟩)
    go_returns
    exact ⟨rfl, by go_grown⟩
  · obtain ⟨h1, h8, ha, hl, hal⟩ := right_bd hr
    have K : ∀ W, Calls Tryd.prog 14 #[.agg #[.int .i64 s, .int .i64 a, .int .i64 l, .bool b, .bool t]] W fun e w' => e = .returned (.bool true) ∧ W.alloc (.cells #[.int .i64 s, .int .i64 a, .int .i64 l, .bool b, .bool t] 24) = w' := fun W => by rw [← hr]; exact rright_any s a l b t W
    have K' := hid K
    have hr' := hid hr
    clear hr K
    rcases (by omega : s = 1 ∨ s = 2 ∨ 4 < s ∨ s = 3 ∨ s = 4) with rfl | rfl | g4 | rfl | rfl
    · rcases (by omega : sg = 1 ∨ sg = 3 ∨ sg = 6 ∨ sg = 7 ∨ (¬ sg = 1 ∧ ¬ sg = 3 ∧ ¬ sg = 6 ∧ ¬ sg = 7)) with rfl | rfl | rfl | rfl | ⟨g1, g3, g6, g7⟩
      rotate_left 4
      have z6 : (sg == 6) = false := by simp; omega
      have z7 : (sg == 7) = false := by simp; omega
      all_goals
        go_enter Tryd.func11, Tryd.ntmps11
        go_wp2_with (first | (go_at_call 14; refine (K'.out _).mono ?_; rintro e w1 ⟨rfl, rfl⟩) | (go_at_call 18; refine (rlive_no _ _ (by omega)).mono ?_; rintro e w' ⟨rfl, rfl⟩))
        all_goals go_returns
        all_goals exact ⟨ret_rv' (by simp [nextF, hr'.out, nx, *]), by go_grown⟩
    · rcases (by omega : sg = 2 ∨ sg = 6 ∨ sg = 7 ∨ (¬ sg = 2 ∧ ¬ sg = 6 ∧ ¬ sg = 7)) with rfl | rfl | rfl | ⟨g2, g6, g7⟩
      rotate_left 3
      have z6 : (sg == 6) = false := by simp; omega
      have z7 : (sg == 7) = false := by simp; omega
      all_goals
        go_enter Tryd.func11, Tryd.ntmps11
        go_wp2_with (first | (go_at_call 14; refine (K'.out _).mono ?_; rintro e w1 ⟨rfl, rfl⟩) | (go_at_call 18; refine (rlive_no _ _ (by omega)).mono ?_; rintro e w' ⟨rfl, rfl⟩))
        all_goals go_returns
        all_goals exact ⟨ret_rv' (by simp [nextF, hr'.out, nx, *]), by go_grown⟩
    · have n1 : ¬ s = 1 := by omega
      have n2 : ¬ s = 2 := by omega
      have n3 : ¬ s = 3 := by omega
      have n4 : ¬ s = 4 := by omega
      all_goals
        go_enter Tryd.func11, Tryd.ntmps11
        go_wp2_with (first | (go_at_call 14; refine (K'.out _).mono ?_; rintro e w1 ⟨rfl, rfl⟩) | (go_at_call 18; refine (rlive_no _ _ (by omega)).mono ?_; rintro e w' ⟨rfl, rfl⟩))
        all_goals go_returns
        all_goals exact ⟨ret_rv' (by simp [nextF, hr'.out, nx, *]), by go_grown⟩
    · obtain ⟨rfl, rfl⟩ := right_bt hr'.out (by omega)
      rcases (by omega : sg = 4 ∨ sg = 5 ∨ sg = 6 ∨ sg = 8 ∨ (¬ sg = 4 ∧ ¬ sg = 5 ∧ ¬ sg = 6 ∧ ¬ sg = 8)) with rfl | rfl | rfl | rfl | ⟨g4, g5, g6, g8⟩
      all_goals
        go_enter Tryd.func11, Tryd.ntmps11
        go_wp2_with (first | (go_at_call 14; refine (K'.out _).mono ?_; rintro e w1 ⟨rfl, rfl⟩) | (go_at_call 18; refine (rlive_yes _ _ (by omega)).mono ?_; rintro e w' ⟨rfl, rfl⟩))
        all_goals go_returns
        all_goals exact ⟨ret_rv' (by simp [nextF, hr'.out, nx, *]), by go_grown⟩
    · rcases (by omega : sg = 4 ∨ sg = 5 ∨ sg = 6 ∨ sg = 8 ∨ (¬ sg = 4 ∧ ¬ sg = 5 ∧ ¬ sg = 6 ∧ ¬ sg = 8)) with rfl | rfl | rfl | rfl | ⟨g4, g5, g6, g8⟩
      all_goals cases t <;> cases b <;> rcases (by omega : 0 < l ∨ l = 0) with hl0 | rfl
      all_goals
        go_enter Tryd.func11, Tryd.ntmps11
        go_wp2_with (first | (go_at_call 14; refine (K'.out _).mono ?_; rintro e w1 ⟨rfl, rfl⟩) | (go_at_call 18; refine (rlive_yes _ _ (by omega)).mono ?_; rintro e w' ⟨rfl, rfl⟩) | (go_at_call 24; refine (over10_any _ _ _ _ _ _ hl (by omega)).mono ?_; rintro e w2 ⟨rfl, rfl⟩))
        all_goals go_returns
        all_goals exact ⟨ret_rv' (by simp [nextF, hr'.out, nx, *]), by go_grown⟩
end Go.Proofs.YtlfbooillhleoaaDoor
