/- Whether an amount is no more than what Free tells; ticks that nothing was taken of. Plain mathematics and calls whose outcome is known. Conditions: none. -/
import Derived.Test.YtadnbhjbaicjeaaBackMath
namespace Go.Proofs.Ytadnbhjbaicjeaa
open Go Go.RowKit
theorem fits_of_fit {W m v : V4} {f : Int → V4} {t k : Int} (h : MinOf W f t (t + k) m) (hF : Fit f v t k) (hW : ∀ t, (f t).le W) (hk : 1 ≤ k) : v.leB m = true := by
  rw [V4.leB_iff, h]
  exact ⟨V4.le_trans (hF t (Int.le_refl _) (by omega)) (hW t), fun u u1 u2 u3 u4 => hF u u3 u4⟩
theorem no_fits {W m v : V4} {f : Int → V4} {t k : Int} (h : MinOf W f t (t + k) m) (hF : ¬ Fit f v t k) (h0 : 0 ≤ t) (hk : t + k ≤ 1099511627776) : v.leB m = false := by
  cases hb : v.leB m with
  | false => rfl
  | true =>
    exact absurd (fun u u1 u2 => ((h v).1 ((V4.leB_iff _ _).1 hb)).2 u (by omega) (by omega) u1 u2) hF
theorem free_fits (p : Nat) (W : V4) (f : Int → V4) (t k : Int) (v : V4) (w : World) (h : Pr w p W f) (hF : Fit f v t k) (hk : 1 ≤ k) : Calls Try.prog 10 #[.pointer (some ⟨p, 0, none⟩), .int .i64 t, .int .i64 (t + k)] w fun e w' => (∃ m : V4, e = .returned (.agg #[.int .i64 m.a, .int .i64 m.b, .int .i64 m.c, .int .i64 m.d]) ∧ v.leB m = true) ∧ Below w.heap.size w w' := by
  refine (free_pr p W f t (t + k) w h).mono ?_
  rintro e w' ⟨m, rfl, hm, hb⟩
  exact ⟨⟨m, rfl, fits_of_fit hm hF h.facts.1 hk⟩, hb⟩
theorem free_nofits (p : Nat) (W : V4) (f : Int → V4) (t k : Int) (v : V4) (w : World) (h : Pr w p W f) (hF : ¬ Fit f v t k) (h0 : 0 ≤ t) (hk : t + k ≤ 1099511627776) : Calls Try.prog 10 #[.pointer (some ⟨p, 0, none⟩), .int .i64 t, .int .i64 (t + k)] w fun e w' => (∃ m : V4, e = .returned (.agg #[.int .i64 m.a, .int .i64 m.b, .int .i64 m.c, .int .i64 m.d]) ∧ v.leB m = false) ∧ Below w.heap.size w w' := by
  refine (free_pr p W f t (t + k) w h).mono ?_
  rintro e w' ⟨m, rfl, hm, hb⟩
  exact ⟨⟨m, rfl, no_fits hm hF h0 hk⟩, hb⟩
theorem rfits_is {x y : V4} {b : Bool} (h : x.leB y = b) (w : World) : Calls Try.prog 16 #[.agg #[.int .i64 x.a, .int .i64 x.b, .int .i64 x.c, .int .i64 x.d], .agg #[.int .i64 y.a, .int .i64 y.b, .int .i64 y.c, .int .i64 y.d]] w fun e w' => e = .returned (.bool b) ∧ Below w.heap.size w w' := by
  rw [← h]
  exact rfits4 x y w
/-- Where all spans end by the tick 2000, and the amount fits the whole, there is a tick. -/
theorem er_some {W v : V4} {f : Int → V4} {a k t : Int} {xs : List Ac} (h : ER f a k v t false) (hL : (∀ x, x ∈ xs → x.c ≤ 2000) → T2k W f) :
    decide (k < 1) = true ∨ (decide (k < 1) = false ∧ v.okB = false) ∨ (decide (k < 1) = false ∧ v.okB = true ∧ decide (1099511627776 - k < a) = true) ∨ (decide (k < 1) = false ∧ v.okB = true ∧ decide (1099511627776 - k < a) = false ∧ v.leB W = false) ∨
    (decide (k < 1) = false ∧ v.okB = true ∧ decide (1099511627776 - k < a) = false ∧ v.leB W = true ∧ decide (1099511625776 < k) = true) ∨ (decide (k < 1) = false ∧ v.okB = true ∧ decide (1099511627776 - k < a) = false ∧ v.leB W = true ∧ decide (1099511625776 < k) = false ∧ lateB xs = true) := by
  by_cases h1 : k < 1
  · exact .inl (by simpa using h1)
  · have g1 : decide (k < 1) = false := by simpa using h1
    right
    cases h2 : v.okB with
    | false => exact .inl ⟨g1, rfl⟩
    | true =>
      right
      by_cases h3 : 1099511627776 - k < a
      · exact .inl ⟨g1, rfl, by simpa using h3⟩
      · have g3 : decide (1099511627776 - k < a) = false := by simpa using h3
        right
        cases h4 : v.leB W with
        | false => exact .inl ⟨g1, rfl, g3, rfl⟩
        | true =>
          right
          by_cases h5 : 1099511625776 < k
          · exact .inl ⟨g1, rfl, g3, rfl, by simpa using h5⟩
          · have g5 : decide (1099511625776 < k) = false := by simpa using h5
            right
            refine ⟨g1, rfl, g3, rfl, g5, ?_⟩
            cases h6 : lateB xs with
            | true => rfl
            | false =>
              have hT := hL ((lateB_iff xs).1 h6)
              obtain ⟨_, h7⟩ := h.2 rfl
              refine absurd (fun u u1 u2 => ?_) (h7 ⟨by omega, by omega, h2⟩ (max a 2000) (by omega) (by omega))
              rw [hT u (by omega)]
              exact (V4.leB_iff _ _).1 h4
end Go.Proofs.Ytadnbhjbaicjeaa
