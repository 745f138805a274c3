/- What every sign keeps true of a life: it may be, and attempts and what is left are bounded. Condition: none. -/
import Derived.Test.YtlfbooillhleoaaDoorKeep
import Derived.Test.YtlfbooillhleoaaDoorRows
import Derived.Test.YtlfbooillhleoaaDoorTab
import Derived.Test.YtlfbooillhleoaaDoorOpen
import Derived.ProofKit
namespace Go.Proofs.YtlfbooillhleoaaDoor
open Go Go.ChangeShapes Go.WideShapes Go.RowKit
open Go.ChangeMaps (open_string shut_string)
/-- What stays true of a life as signs come. -/
def StayI (R s a l : Int) (b t : Bool) : Prop := rightB s a l b t = true ∧ a + l ≤ R + 1 ∧ ((s = 1 ∨ s = 2) → a + l ≤ R)
theorem stay_next {R s a l : Int} {b t : Bool} (sg : Int) (h : StayI R s a l b t) :
    (nextF s a l b t sg = ⟨0, 0, 0, false, false, 100⟩) ∨ ∃ s' a' l' b' t', nextF s a l b t sg = ⟨s', a', l', b', t', 0⟩ ∧ StayI R s' a' l' b' t' ∧ overB s = false ∧ a ≤ a' ∧ l' ≤ l ∧ a' ≤ R + 1 ∧ a' + l' ≤ R + 1 := by
  obtain ⟨hr, h1, h2⟩ := h
  have hr0 := hr
  simp only [rightB, decide_eq_true_iff] at hr
  obtain ⟨r1, r2, r3, r4, r5, r6, r7⟩ := hr
  unfold nextF
  rw [if_neg (by rw [hr0]; decide)]
  by_cases c1 : s = 4 ∧ sg = 8
  · rw [if_pos c1]
    obtain ⟨rfl, rfl⟩ := c1
    refine .inr ⟨_, _, _, _, _, rfl, ?_⟩
    rw [if_neg (by omega)] at r5
    have a1 : ¬ a = 0 := fun hh => by have := r6 hh; omega
    refine ⟨⟨?_, ?_, ?_⟩, by simp [overB], Int.le_refl _, ?_, ?_, ?_⟩
    · simp only [rightB, decide_eq_true_iff]
      cases t <;> cases b <;> by_cases hl : 0 < l <;> simp [hl] <;> omega
    · cases t <;> cases b <;> by_cases hl : 0 < l <;> simp [hl] <;> omega
    · cases t <;> cases b <;> by_cases hl : 0 < l <;> simp [hl] <;> omega
    · cases t <;> cases b <;> by_cases hl : 0 < l <;> simp [hl] <;> omega
    · omega
    · cases t <;> cases b <;> by_cases hl : 0 < l <;> simp [hl] <;> omega
  · rw [if_neg c1]
    by_cases c2 : s = 4 ∧ sg = 6 ∧ t = true
    · rw [if_pos c2]
      exact .inl rfl
    · rw [if_neg c2]
      by_cases c3 : nx s sg = 0
      · rw [if_pos c3]
        exact .inl rfl
      · rw [if_neg c3]
        refine .inr ⟨_, _, _, _, _, rfl, ?_⟩
        have hs : s = 1 ∨ s = 2 ∨ s = 3 ∨ s = 4 := by
          by_cases e1 : s = 1
          · omega
          by_cases e2 : s = 2
          · omega
          by_cases e3 : s = 3
          · omega
          by_cases e4 : s = 4
          · omega
          exact absurd (by simp [nx, e1, e2, e3, e4]) c3
        have hbt : s = 4 ∨ (b = false ∧ t = false) := r7
        rcases (by omega : sg = 1 ∨ sg = 2 ∨ sg = 3 ∨ sg = 4 ∨ sg = 5 ∨ sg = 6 ∨ sg = 7 ∨ sg = 8 ∨ (¬ sg = 1 ∧ ¬ sg = 2 ∧ ¬ sg = 3 ∧ ¬ sg = 4 ∧ ¬ sg = 5 ∧ ¬ sg = 6 ∧ ¬ sg = 7 ∧ ¬ sg = 8)) with rfl | rfl | rfl | rfl | rfl | rfl | rfl | rfl | ⟨q1, q2, q3, q4, q5, q6, q7, q8⟩
        all_goals rcases hs with rfl | rfl | rfl | rfl
        all_goals first | (exfalso; apply c3; simp [nx, *]; done) | (exfalso; exact c1 ⟨rfl, rfl⟩) | skip
        all_goals
          simp at h2 r5 r6 hbt
          simp only [StayI, rightB, overB, decide_eq_true_iff, decide_eq_false_iff_not]
          simp [nx]
          (try (obtain ⟨rfl, rfl⟩ := hbt; simp))
          (try omega)
end Go.Proofs.YtlfbooillhleoaaDoor
