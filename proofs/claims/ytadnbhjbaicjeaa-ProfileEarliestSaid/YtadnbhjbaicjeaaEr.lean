/- What Earliest tells of any profile, with any arguments. Conditions: the profile stands in memory. -/
import Derived.Test.YtadnbhjbaicjeaaTaken
namespace Go.Proofs.Ytadnbhjbaicjeaa
open Go Go.RowKit
/-- What Earliest tells of a profile. -/
def ER (f : Int → V4) (a k : Int) (v : V4) (t : Int) (b : Bool) : Prop := (b = true → (max a 0 ≤ t ∧ t ≤ 1099511627776 - k ∧ (1 ≤ k ∧ k ≤ 1099511627776 ∧ v.okB = true) ∧ Fit f v t k ∧ ∀ u, max a 0 ≤ u → u < t → ¬ Fit f v u k)) ∧
  (b = false → (t = 0 ∧ ((1 ≤ k ∧ k ≤ 1099511627776 ∧ v.okB = true) → ∀ u, max a 0 ≤ u → u ≤ 1099511627776 - k → ¬ Fit f v u k)))
def EPost (w : World) (f : Int → V4) (a k : Int) (v : V4) (e : Ending) (w' : World) : Prop := ∃ t b, e = .returned (.tuple #[.int .i64 t, .bool b]) ∧ ER f a k v t b ∧ Below w.heap.size w w'
theorem earl_er (p : Nat) (W : V4) (f : Int → V4) (a k : Int) (v : V4) (w : World) (h : Pr w p W f) (ha : a ≤ 9223372036854775807) : Calls Try.prog 14 #[.pointer (some ⟨p, 0, none⟩), .int .i64 a, .int .i64 k, .agg #[.int .i64 v.a, .int .i64 v.b, .int .i64 v.c, .int .i64 v.d]] w (EPost w f a k v) := by
  by_cases hg : 1 ≤ k ∧ k ≤ 1099511627776 ∧ v.okB = true
  · refine (earl_pr p W f a k v w h hg.2.2 hg.1 hg.2.1 ha).mono ?_
    rintro e w' ⟨hb, ⟨t, h1, h2, h3, h4, h5⟩ | ⟨h1, h2⟩⟩
    · exact ⟨t, true, h1, ⟨fun _ => ⟨h2, h3, hg, h4, h5⟩, (fun h => by cases h)⟩, hb⟩
    · exact ⟨0, false, h1, ⟨(fun h => by cases h), fun _ => ⟨rfl, fun _ => h2⟩⟩, hb⟩
  · refine (earl_pr_bad p W f a k v w h ?_).mono ?_
    · cases hv : v.okB
      · exact .inr (.inr rfl)
      · rw [hv] at hg
        simp at hg
        omega
    · rintro e w' ⟨h1, hb⟩
      exact ⟨0, false, h1, ⟨(fun h => by cases h), fun _ => ⟨rfl, fun h => absurd h hg⟩⟩, hb⟩
theorem seven {w : World} {B : Nat} {a0 a1 a2 a3 a4 a5 a6 : Value} {T : TypeId} (h : w.heap[B]? = some (.cells #[a0, a1, a2, a3, a4, a5, a6] T (0, 0))) : w.cell? ⟨B, 0, none⟩ = some a0 ∧ w.cell? ⟨B, 1, none⟩ = some a1 ∧ w.cell? ⟨B, 2, none⟩ = some a2 ∧ w.cell? ⟨B, 3, none⟩ = some a3 ∧ w.cell? ⟨B, 4, none⟩ = some a4 ∧ w.cell? ⟨B, 5, none⟩ = some a5 ∧ w.cell? ⟨B, 6, none⟩ = some a6 := by
  refine ⟨?_, ?_, ?_, ?_, ?_, ?_, ?_⟩
  · rw [cell_of h 0]; rfl
  · rw [cell_of h 1]; rfl
  · rw [cell_of h 2]; rfl
  · rw [cell_of h 3]; rfl
  · rw [cell_of h 4]; rfl
  · rw [cell_of h 5]; rfl
  · rw [cell_of h 6]; rfl
theorem give_some (p : Nat) (W : V4) (f : Int → V4) (a c : Int) (v : V4) (w : World) (h : Pr w p W f) : Calls Try.prog 13 #[.pointer (some ⟨p, 0, none⟩), .int .i64 a, .int .i64 c, .agg #[.int .i64 v.a, .int .i64 v.b, .int .i64 v.c, .int .i64 v.d]] w fun e w' => (∃ x : Int, e = .returned (.int .i64 x)) ∧ (∃ f', Pr w' p W f' ∧ ∀ t, (f t).le (f' t)) ∧ w.grownBy w' (some p) := by
  refine (give_any p W f a c v w h).mono ?_
  rintro e w' (⟨h1, h2, h3⟩ | ⟨h1, h2, h4, h3⟩ | ⟨h1, h2, h4, h3, h5⟩)
  · exact ⟨⟨_, h1⟩, ⟨f, h.keep h3, fun t => V4.le_refl _⟩, gb_below h3 _⟩
  · exact ⟨⟨_, h1⟩, ⟨f, h.keep h3, fun t => V4.le_refl _⟩, gb_below h3 _⟩
  · refine ⟨⟨_, h1⟩, ⟨_, h5, fun t => ?_⟩, h3⟩
    unfold chF
    split
    · exact V4.le_add ((V4.okB_iff _).1 h2.2)
    · exact V4.le_refl _
theorem er_later {f f' : Int → V4} {a k t t' : Int} {v : V4} {b b' : Bool} (h : ER f a k v t b) (h' : ER f' a k v t' b') (hf : ∀ t, (f t).le (f' t)) : b = false ∨ (b = true ∧ b' = true ∧ t' ≤ t) := by
  cases b with
  | false => exact .inl rfl
  | true =>
    right
    obtain ⟨h1, h2, h3, h4, h5⟩ := h.1 rfl
    have hF : Fit f' v t k := fun u u1 u2 => V4.le_trans (h4 u u1 u2) (hf u)
    cases b' with
    | false =>
      obtain ⟨_, k2⟩ := h'.2 rfl
      exact absurd hF (k2 h3 t h1 h2)
    | true =>
      obtain ⟨k1, k2, k3, k4, k5⟩ := h'.1 rfl
      refine ⟨rfl, rfl, ?_⟩
      rcases Int.lt_or_le t t' with hl | hl
      · exact absurd hF (k5 t h1 hl)
      · exact hl
end Go.Proofs.Ytadnbhjbaicjeaa
