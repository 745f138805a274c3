/- life.Right at any life: whether it may be. Condition: the tables stand as the program's text lays them. -/
import Derived.Test.YtlfbooillhleoaaDoorParts
namespace Go.Proofs.YtlfbooillhleoaaDoor
open Go Go.RowKit
theorem nm_list (s : Int) (h1 : 1 ≤ s) (h8 : s ≤ 8) : (nm s.toNat).toList.isEmpty = false := by
  rcases (by omega : s = 1 ∨ s = 2 ∨ s = 3 ∨ s = 4 ∨ s = 5 ∨ s = 6 ∨ s = 7 ∨ s = 8) with rfl | rfl | rfl | rfl | rfl | rfl | rfl | rfl <;> kernel_rfl
theorem name_some (s : Int) (W : World) (hT : Tab W) (h1 : 1 ≤ s) (h8 : s ≤ 8) : Calls Tryd.prog 19 #[.int .i64 s] W fun e w' => ∃ x : ByteArray, x.toList.isEmpty = false ∧ e = .returned (.string x) ∧ W = w' :=
  (name_in s W hT (by omega) h8).mono fun _ _ ⟨h, h'⟩ => ⟨_, nm_list s h1 h8, h, h'⟩
theorem right_end (s a l : Int) (b t c : Bool) (h : c = true ↔ (1 ≤ s ∧ s ≤ 8 ∧ 0 ≤ a ∧ 0 ≤ l ∧ ((s = 1 ∨ s = 2) → a + l ≤ 5) ∧ a + l ≤ 6 ∧ (a = 0 → s = 1 ∨ s = 2 ∨ s = 8) ∧ (s = 4 ∨ (b = false ∧ t = false)))) : Ending.returned (.bool c) = .returned (.bool (rightB s a l b t)) := by
  apply ret_bool
  rw [Bool.eq_iff_iff, h]
  unfold rightB
  rw [decide_eq_true_iff]
  by_cases h1 : s = 1 ∨ s = 2
  · rw [if_pos h1]
    constructor
    · rintro ⟨a1, a2, a3, a4, a5, a6, a7⟩
      exact ⟨a1, a2, a3, a4, a5 h1, a7⟩
    · rintro ⟨a1, a2, a3, a4, a5, a7⟩
      exact ⟨a1, a2, a3, a4, fun _ => a5, by omega, a7⟩
  · rw [if_neg h1]
    constructor
    · rintro ⟨a1, a2, a3, a4, a5, a6, a7⟩
      exact ⟨a1, a2, a3, a4, a6, a7⟩
    · rintro ⟨a1, a2, a3, a4, a5, a7⟩
      exact ⟨a1, a2, a3, a4, fun hh => absurd hh h1, a5, a7⟩
set_option maxHeartbeats 800000 in
theorem right_any (s a l : Int) (b t : Bool) (w : World) (hT : Tab w) :
    Calls Tryd.prog 13 #[.agg #[.int .i64 s, .int .i64 a, .int .i64 l, .bool b, .bool t]] w fun e w' => e = .returned (.bool (rightB s a l b t)) ∧ w.alloc (.cells #[.int .i64 s, .int .i64 a, .int .i64 l, .bool b, .bool t] 24) = w' := by
  by_cases hs : 1 ≤ s ∧ s ≤ 8
  · obtain ⟨h1, h8⟩ := hs
    have K : ∀ s W, Below w.heap.size w W → 1 ≤ s → s ≤ 8 → Calls Tryd.prog 19 #[.int .i64 s] W fun e w' => ∃ x : ByteArray, x.toList.isEmpty = false ∧ e = .returned (.string x) ∧ W = w' := fun s W h => name_some s W (hT.below h)
    have K' := hid K
    clear hT K
    rcases (by omega : s = 1 ∨ s = 2 ∨ s = 4 ∨ s = 8 ∨ (¬ s = 1 ∧ ¬ s = 2 ∧ ¬ s = 4 ∧ ¬ s = 8)) with rfl | rfl | rfl | rfl | ⟨g1, g2, g4, g8⟩
    rotate_left 4
    have f1 : (s == 1) = false := by simp; omega
    have f2 : (s == 2) = false := by simp; omega
    all_goals
      go_enter Tryd.func13, Tryd.ntmps13
      go_wp2_with (go_at_call 19; refine (K'.out _ _ (by go_grown) (by omega) (by omega)).mono ?_; rintro e w' ⟨x, hx, rfl, rfl⟩)
      all_goals go_returns
      all_goals exact ⟨right_end _ _ _ _ _ _ (by cases b <;> cases t <;> first | contradiction | (simp; done) | (simp; omega)), (by first | rfl | (subst_vars; rfl) | (simp_all; done))⟩
  · have K : ∀ W, Below w.heap.size w W → Calls Tryd.prog 19 #[.int .i64 s] W fun e w' => e = .returned (.string ⟨#[]⟩) ∧ W = w' := fun W hb => by
      by_cases h0 : s = 0
      · subst h0
        exact name_in 0 W (hT.below hb) (by omega) (by omega)
      · exact name_out s W (by omega)
    have hr : rightB s a l b t = false := by simp [rightB]; omega
    rw [hr]
    have hs1 : (s == 1) = false := by simp; omega
    have hs2 : (s == 2) = false := by simp; omega
    have K' := hid K
    clear hT K
    go_enter Tryd.func13, Tryd.ntmps13
    go_wp2_with (go_at_call 19; refine (K'.out _ (by go_grown)).mono ?_; rintro e w' ⟨rfl, rfl⟩)
    all_goals go_returns
    all_goals exact ⟨rfl, rfl⟩
end Go.Proofs.YtlfbooillhleoaaDoor
