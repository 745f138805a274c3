/- The order of shares: turned about it is turned, it goes through, equal is equal. Condition: none. -/
import Derived.Test.YtafcajojepigiaaCompare
namespace Go.Proofs.Ytafcajojepigiaa
open Go Go.RowKit
/-- Parts from 0 on, not both 0. -/
def Val (p : Int × Int) : Prop := 0 ≤ p.1 ∧ 0 ≤ p.2 ∧ (0 < p.1 ∨ 0 < p.2)
theorem pl_val (n d : Int) : Val (pl n d) ∧ ((pl n d).2 = 0 → (pl n d).1 = 1) := by
  unfold pl Val
  split
  · simp
  · split
    · simp
    · simp; omega
theorem sgn_cases (x y : Int) : (sgn x y = -1 ∧ x < y) ∨ (sgn x y = 0 ∧ x = y) ∨ (sgn x y = 1 ∧ y < x) := by
  unfold sgn
  split
  · exact .inl ⟨rfl, by assumption⟩
  · split
    · exact .inr (.inr ⟨rfl, by assumption⟩)
    · exact .inr (.inl ⟨rfl, by omega⟩)
theorem sgn_turn (x y : Int) : sgn y x = - sgn x y := by
  rcases sgn_cases x y with ⟨h, _⟩ | ⟨h, _⟩ | ⟨h, _⟩ <;> rcases sgn_cases y x with ⟨h', _⟩ | ⟨h', _⟩ | ⟨h', _⟩ <;> rw [h, h'] <;> omega
/-- Of plain shares the comparison is that of the cross products. -/
theorem cmpS_cross (a b c d : Int) : cmpS a b c d = sgn ((pl a b).1 * (pl c d).2) ((pl c d).1 * (pl a b).2) := by
  obtain ⟨⟨p1, p2, p3⟩, p4⟩ := pl_val a b
  obtain ⟨⟨q1, q2, q3⟩, q4⟩ := pl_val c d
  unfold cmpS cmpI
  generalize (pl a b).1 = n at *
  generalize (pl a b).2 = e at *
  generalize (pl c d).1 = m at *
  generalize (pl c d).2 = f at *
  by_cases h1 : n = m ∧ e = f
  · rw [if_pos h1]
    obtain ⟨rfl, rfl⟩ := h1
    simp [sgn]
  · rw [if_neg h1]
    by_cases h2 : n = 1 ∧ e = 0
    · rw [if_pos h2]
      obtain ⟨rfl, rfl⟩ := h2
      have hf : 0 < f := by
        by_cases hz : f = 0
        · exact absurd ⟨(q4 hz).symm, hz.symm⟩ h1
        · omega
      rw [sgn, if_neg (by rw [Int.mul_zero]; omega), if_pos (by rw [Int.mul_zero]; omega)]
    · rw [if_neg h2]
      by_cases h3 : m = 1 ∧ f = 0
      · rw [if_pos h3]
        obtain ⟨rfl, rfl⟩ := h3
        have he : 0 < e := by
          by_cases hz : e = 0
          · exact absurd ⟨p4 hz, hz⟩ h1
          · omega
        rw [sgn, if_pos (by rw [Int.mul_zero]; omega)]
      · rw [if_neg h3]
theorem cross_trans {a b c d e f : Int} (hb : 0 ≤ b) (hd : 0 ≤ d) (hf : 0 ≤ f) (hc : 0 ≤ c) (he : 0 ≤ e) (hm : 0 < c ∨ 0 < d) (h1 : a * d ≤ c * b) (h2 : c * f ≤ e * d) : a * f ≤ e * b := by
  by_cases hd0 : 0 < d
  · have k1 := Int.mul_le_mul_of_nonneg_right h1 hf
    have k2 := Int.mul_le_mul_of_nonneg_right h2 hb
    refine Int.le_of_mul_le_mul_right ?_ hd0
    calc a * f * d = a * d * f := by rw [Int.mul_right_comm]
      _ ≤ c * b * f := k1
      _ = c * f * b := by rw [Int.mul_right_comm]
      _ ≤ e * d * b := k2
      _ = e * b * d := by rw [Int.mul_right_comm]
  · have hd' : d = 0 := by omega
    have hc' : 0 < c := by omega
    subst hd'
    rw [Int.mul_zero] at h2
    have hf' : f = 0 := by
      by_cases hz : f = 0
      · exact hz
      · have := Int.mul_pos hc' (show 0 < f by omega)
        omega
    subst hf'
    rw [Int.mul_zero]
    exact Int.mul_nonneg he hb
/-- What of any three plain shares the order tells. -/
theorem cmp_trans (a b c d e f : Int) : (0 ≤ cmpS a b c d → 0 ≤ cmpS c d e f → 0 ≤ cmpS a b e f) ∧ (cmpS a b c d ≤ 0 → cmpS c d e f ≤ 0 → cmpS a b e f ≤ 0) := by
  obtain ⟨⟨p1, p2, p3⟩, _⟩ := pl_val a b
  obtain ⟨⟨q1, q2, q3⟩, _⟩ := pl_val c d
  obtain ⟨⟨r1, r2, r3⟩, _⟩ := pl_val e f
  rw [cmpS_cross, cmpS_cross, cmpS_cross]
  generalize (pl a b).1 = n at *
  generalize (pl a b).2 = k at *
  generalize (pl c d).1 = m at *
  generalize (pl c d).2 = l at *
  generalize (pl e f).1 = u at *
  generalize (pl e f).2 = v at *
  constructor
  · intro h1 h2
    have g1 : m * k ≤ n * l := by rcases sgn_cases (n * l) (m * k) with ⟨h, _⟩ | ⟨_, _⟩ | ⟨_, _⟩ <;> omega
    have g2 : u * l ≤ m * v := by rcases sgn_cases (m * v) (u * l) with ⟨h, _⟩ | ⟨_, _⟩ | ⟨_, _⟩ <;> omega
    have g3 : u * k ≤ n * v := cross_trans r2 q2 p2 q1 p1 q3 g2 g1
    rcases sgn_cases (n * v) (u * k) with ⟨h, _⟩ | ⟨h, _⟩ | ⟨h, _⟩ <;> omega
  · intro h1 h2
    have g1 : n * l ≤ m * k := by rcases sgn_cases (n * l) (m * k) with ⟨h, _⟩ | ⟨_, _⟩ | ⟨_, _⟩ <;> omega
    have g2 : m * v ≤ u * l := by rcases sgn_cases (m * v) (u * l) with ⟨h, _⟩ | ⟨_, _⟩ | ⟨_, _⟩ <;> omega
    have g3 : n * v ≤ u * k := cross_trans p2 q2 r2 q1 r1 q3 g1 g2
    rcases sgn_cases (n * v) (u * k) with ⟨h, _⟩ | ⟨h, _⟩ | ⟨h, _⟩ <;> omega
theorem cmp_turn (a b c d : Int) : cmpS c d a b = - cmpS a b c d := by
  rw [cmpS_cross, cmpS_cross]
  exact sgn_turn _ _
theorem cmp_self (a b : Int) : cmpS a b a b = 0 := by
  rw [cmpS_cross]
  simp [sgn]
theorem cmp_range (a b c d : Int) : cmpS a b c d = -1 ∨ cmpS a b c d = 0 ∨ cmpS a b c d = 1 := by
  rw [cmpS_cross]
  rcases sgn_cases ((pl a b).1 * (pl c d).2) ((pl c d).1 * (pl a b).2) with ⟨h, _⟩ | ⟨h, _⟩ | ⟨h, _⟩
  · exact .inl h
  · exact .inr (.inl h)
  · exact .inr (.inr h)
theorem compare_any (a b c d : Int) (w : World) (ha : a ≤ 9223372036854775807) (hb : b ≤ 9223372036854775807) (hc : c ≤ 9223372036854775807) (hd : d ≤ 9223372036854775807) :
    Calls Try.prog 11 #[.agg #[.int .i64 a, .int .i64 b], .agg #[.int .i64 c, .int .i64 d]] w fun e w' => e = .returned (.int .i64 (cmpS a b c d)) ∧ Below w.heap.size w w' := by
  have bd : ∀ n d : Int, n ≤ 9223372036854775807 → d ≤ 9223372036854775807 → (0 ≤ (pl n d).1 ∧ (pl n d).1 ≤ 9223372036854775807) ∧ 0 ≤ (pl n d).2 ∧ (pl n d).2 ≤ 9223372036854775807 := fun n d hn hd => by
    unfold pl
    split
    · simp
    · split
      · simp
      · simp; omega
  exact compare_core a b c d _ _ _ _ w (bd a b ha hb).1 (bd a b ha hb).2 (bd c d hc hd).1 (bd c d hc hd).2 (hid fun W => plain_any a b W) (hid fun W => plain_any c d W)
end Go.Proofs.Ytafcajojepigiaa
