/- What becomes of a live job's flags as signs come. Condition: none. -/
import Derived.Test.YtlfbooillhleoaaDoorSlice
namespace Go.Proofs.YtlfbooillhleoaaDoor
open Go Go.RowKit
def EndI (s : Int) (st wl gn : Bool) : Prop := (s = 3 ∧ st = false ∧ wl = false ∧ gn = false) ∨ (s = 4 ∧ (st || wl || gn) = true)
theorem end_right {s r : Int} {st wl gn : Bool} (h0 : 0 ≤ r) (h5 : r ≤ 5) (h : EndI s st wl gn) : rightB s 1 r wl st = true := by
  simp only [rightB, decide_eq_true_iff]
  rcases h with ⟨rfl, rfl, rfl, rfl⟩ | ⟨rfl, _⟩
  · exact ⟨by omega, by omega, by omega, h0, by simp; omega, fun hh => by omega, .inr ⟨rfl, rfl⟩⟩
  · exact ⟨by omega, by omega, by omega, h0, by simp; omega, fun hh => by omega, .inl rfl⟩
theorem end_next {s r : Int} {st wl gn : Bool} (sg : Int) (h0 : 0 ≤ r) (h5 : r ≤ 5) (h : EndI s st wl gn) (h8 : ¬ sg = 8) :
    nextF s 1 r wl st sg = ⟨0, 0, 0, false, false, 100⟩ ∨ ((sg = 4 ∨ sg = 5 ∨ (sg = 6 ∧ st = false)) ∧ nextF s 1 r wl st sg = ⟨4, 1, r, wl || sg == 4, st || sg == 6, 0⟩) := by
  have hr := end_right h0 h5 h
  unfold nextF
  rw [if_neg (by rw [hr]; decide), if_neg (fun hh => h8 hh.2)]
  rcases (by omega : sg = 4 ∨ sg = 5 ∨ sg = 6 ∨ (¬ sg = 4 ∧ ¬ sg = 5 ∧ ¬ sg = 6)) with rfl | rfl | rfl | ⟨q4, q5, q6⟩
  · rcases h with ⟨rfl, rfl, rfl, rfl⟩ | ⟨rfl, _⟩
    · exact .inr ⟨.inl rfl, by simp [nx]⟩
    · exact .inr ⟨.inl rfl, by simp [nx]⟩
  · rcases h with ⟨rfl, rfl, rfl, rfl⟩ | ⟨rfl, _⟩
    · exact .inr ⟨.inr (.inl rfl), by simp [nx]⟩
    · exact .inr ⟨.inr (.inl rfl), by simp [nx]⟩
  · rcases h with ⟨rfl, rfl, rfl, rfl⟩ | ⟨rfl, _⟩
    · exact .inr ⟨.inr (.inr ⟨rfl, rfl⟩), by simp [nx]⟩
    · cases st
      · exact .inr ⟨.inr (.inr ⟨rfl, rfl⟩), by simp [nx]⟩
      · exact .inl (by simp)
  · have e : nx s sg = 0 := by
      rcases h with ⟨rfl, _⟩ | ⟨rfl, _⟩ <;> simp [nx, q4, q5, q6, h8]
    rw [if_neg (fun hh => q6 hh.2.1), if_pos e]
    exact .inl rfl
theorem end_over {s r : Int} {st wl gn : Bool} (h0 : 0 ≤ r) (h5 : r ≤ 5) (h : EndI s st wl gn) :
    ∃ n l', nextF s 1 r wl st 8 = ⟨n, 1, l', false, false, 0⟩ ∧ n = if st then 8 else if wl then 6 else if gn then (if 0 < r then 1 else 7) else 5 := by
  have hr := end_right h0 h5 h
  unfold nextF
  rw [if_neg (by rw [hr]; decide)]
  rcases h with ⟨rfl, rfl, rfl, rfl⟩ | ⟨rfl, hg⟩
  · exact ⟨5, r, by simp [nx], by simp⟩
  · refine ⟨_, _, by rw [if_pos ⟨rfl, rfl⟩], ?_⟩
    cases st <;> cases wl <;> cases gn <;> simp at hg ⊢
end Go.Proofs.YtlfbooillhleoaaDoor
