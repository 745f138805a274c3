/- gang's Give of a gang that may be: the walk. Conditions: the pool and the numbers stand in memory, apart from one another. -/
import Derived.Test.YthkofnahimlijaaGang13
namespace Go.Proofs.Ythkofnahimlijaa
open Go Go.RowKit
def GGivePost (w : World) (q : Nat) (sv : Value) (n : Nat) (ps : Nat → Nat) (Ws : Nat → V4) (fs : Nat → Int → V4) (xs : List Int) (a c : Int) (v : V4) (e : Ending) (w' : World) : Prop :=
  (e = .returned (.int .i64 61) ∧ (∃ i : Nat, (i : Int) ∈ xs ∧ ∃ t, a ≤ t ∧ t < c ∧ ¬ (V4.add (fs i t) v).le (Ws i)) ∧ PL w' q sv n ps Ws fs ∧ FrP w w' n ps) ∨
  (e = .returned (.int .i64 0) ∧ (∀ i : Nat, (i : Int) ∈ xs → ∀ t, a ≤ t → t < c → (V4.add (fs i t) v).le (Ws i)) ∧ PL w' q sv n ps Ws (fsG fs xs a c v xs.length 0) ∧ FrP w w' n ps)
theorem fsG_zero (fs : Nat → Int → V4) (xs : List Int) (a c : Int) (v : V4) : fsG fs xs a c v 0 0 = fs := fsG_same fs xs a c v 0
/-- Give, of a span and an amount that may be. -/
theorem give_two (p : Nat) (W : V4) (f : Int → V4) (a c : Int) (v : V4) (w : World) (h : Pr w p W f) (hs : spanB a c = true) (hv : v.okB = true) : Calls Try.prog 44 #[.pointer (some ⟨p, 0, none⟩), .int .i64 a, .int .i64 c, .agg #[.int .i64 v.a, .int .i64 v.b, .int .i64 v.c, .int .i64 v.d]] w fun e w' =>
    (e = .returned (.int .i64 61) ∧ (∃ t, a ≤ t ∧ t < c ∧ ¬ (V4.add (f t) v).le W) ∧ Below w.heap.size w w') ∨
    (e = .returned (.int .i64 0) ∧ (∀ t, a ≤ t → t < c → (V4.add (f t) v).le W) ∧ Pr w' p W (chF f a c fun x => x.add v) ∧ w.grownBy w' (some p)) := by
  refine (give_any p W f a c v w h).mono ?_
  rintro e w' (⟨h1, h2, h3⟩ | ⟨h1, h2, h4, h3⟩ | ⟨h1, h2, h4, h3, h5⟩)
  · rw [hs, hv] at h2
    rcases h2 with h2 | h2 <;> cases h2
  · exact .inl ⟨h1, h4, h3⟩
  · exact .inr ⟨h1, h4, h5, h3⟩
end Go.Proofs.Ythkofnahimlijaa
