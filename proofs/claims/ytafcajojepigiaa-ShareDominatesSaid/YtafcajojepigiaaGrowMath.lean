/- The dominant share is the greatest of the four; of greater amounts it is not less, nor of a lesser whole. Condition: none. -/
import Derived.Test.YtafcajojepigiaaDom
namespace Go.Proofs.Ytafcajojepigiaa
open Go Go.RowKit
def mxF (H M : Nat → Int) : Nat → Int := fun i => if H i < M i then M i else H i
def mnF (H M : Nat → Int) : Nat → Int := fun i => if M i < H i then M i else H i
theorem mx0_rng (n : Int) : 0 ≤ mx0 n ∧ n ≤ mx0 n ∧ (mx0 n = 0 ∨ mx0 n = n) := by unfold mx0; split <;> omega
/-- More of the part is not less. -/
theorem mono_num {n m d : Int} (h : n ≤ m) : 0 ≤ cmpS m d n d := by
  rw [cmpS_cross]
  have key : (pl n d).1 * (pl m d).2 ≤ (pl m d).1 * (pl n d).2 := by
    have v := (pl_val m d).1.1
    by_cases hn : n ≤ 0
    · have e1 : pl n d = (0, 1) := by rw [pl, if_pos hn]
      rw [e1, Int.zero_mul, Int.mul_one]
      exact v
    · by_cases hd : d ≤ 0
      · have e1 : pl n d = (1, 0) := by rw [pl, if_neg hn, if_pos hd]
        have e2 : pl m d = (1, 0) := by rw [pl, if_neg (by omega), if_pos hd]
        rw [e1, e2]
        decide
      · have e1 : pl n d = (n, d) := by rw [pl, if_neg hn, if_neg hd]
        have e2 : pl m d = (m, d) := by rw [pl, if_neg (by omega), if_neg hd]
        rw [e1, e2]
        exact Int.mul_le_mul_of_nonneg_right h (by omega)
  rcases sgn_cases ((pl m d).1 * (pl n d).2) ((pl n d).1 * (pl m d).2) with ⟨a, b⟩ | ⟨a, _⟩ | ⟨a, _⟩ <;> omega
/-- Less of the whole is not less. -/
theorem mono_den {n d e : Int} (h : e ≤ d) : 0 ≤ cmpS n e n d := by
  rw [cmpS_cross]
  have key : (pl n d).1 * (pl n e).2 ≤ (pl n e).1 * (pl n d).2 := by
    have v := (pl_val n d).1.2.1
    by_cases hn : n ≤ 0
    · have e1 : pl n d = (0, 1) := by rw [pl, if_pos hn]
      have e2 : pl n e = (0, 1) := by rw [pl, if_pos hn]
      rw [e1, e2]
      decide
    · by_cases he : e ≤ 0
      · have e2 : pl n e = (1, 0) := by rw [pl, if_neg hn, if_pos he]
        rw [e2, Int.mul_zero, Int.one_mul]
        exact v
      · have e1 : pl n d = (n, d) := by rw [pl, if_neg hn, if_neg (by omega)]
        have e2 : pl n e = (n, e) := by rw [pl, if_neg hn, if_neg he]
        rw [e1, e2]
        exact Int.mul_le_mul_of_nonneg_left h (by omega)
  rcases sgn_cases ((pl n e).1 * (pl n d).2) ((pl n d).1 * (pl n e).2) with ⟨a, b⟩ | ⟨a, _⟩ | ⟨a, _⟩ <;> omega
theorem mx0_mono {n m : Int} (h : n ≤ m) : mx0 n ≤ mx0 m := by unfold mx0; split <;> split <;> omega
/-- The dominant share is not less than any of the first k. -/
theorem domF_max (H G : Nat → Int) (k i : Nat) (hi : i < k) : 0 ≤ cmpS (mx0 (H (domF H G k))) (mx0 (G (domF H G k))) (mx0 (H i)) (mx0 (G i)) := by
  induction k with
  | zero => omega
  | succ k ih =>
    have hd : domF H G (k + 1) = if 0 < cmpS (mx0 (H k)) (mx0 (G k)) (mx0 (H (domF H G k))) (mx0 (G (domF H G k))) then k else domF H G k := rfl
    by_cases hc : 0 < cmpS (mx0 (H k)) (mx0 (G k)) (mx0 (H (domF H G k))) (mx0 (G (domF H G k)))
    · rw [if_pos hc] at hd
      rw [hd]
      by_cases hk : i = k
      · subst hk
        rw [cmp_self]
        omega
      · exact (cmp_trans _ _ _ _ _ _).1 (by omega) (ih (by omega))
    · rw [if_neg hc] at hd
      rw [hd]
      by_cases hk : i = k
      · subst hk
        have := cmp_turn (mx0 (H i)) (mx0 (G i)) (mx0 (H (domF H G i))) (mx0 (G (domF H G i)))
        omega
      · exact ih (by omega)
theorem grows_num (H M G : Nat → Int) : 0 ≤ cmpS (mx0 (mxF H M (domF (mxF H M) G 4))) (mx0 (G (domF (mxF H M) G 4))) (mx0 (H (domF H G 4))) (mx0 (G (domF H G 4))) := by
  have h1 := domF_max (mxF H M) G 4 (domF H G 4) (domF_lt H G 4 (by omega))
  have h2 : 0 ≤ cmpS (mx0 (mxF H M (domF H G 4))) (mx0 (G (domF H G 4))) (mx0 (H (domF H G 4))) (mx0 (G (domF H G 4))) := mono_num (mx0_mono (by unfold mxF; split <;> omega))
  exact (cmp_trans _ _ _ _ _ _).1 h1 h2
theorem grows_den (H M G : Nat → Int) : 0 ≤ cmpS (mx0 (H (domF H (mnF G M) 4))) (mx0 (mnF G M (domF H (mnF G M) 4))) (mx0 (H (domF H G 4))) (mx0 (G (domF H G 4))) := by
  have h1 := domF_max H (mnF G M) 4 (domF H G 4) (domF_lt H G 4 (by omega))
  have h2 : 0 ≤ cmpS (mx0 (H (domF H G 4))) (mx0 (mnF G M (domF H G 4))) (mx0 (H (domF H G 4))) (mx0 (G (domF H G 4))) := mono_den (mx0_mono (by unfold mnF; split <;> omega))
  exact (cmp_trans _ _ _ _ _ _).1 h1 h2
theorem mxF_bd {H M : Nat → Int} (hH : ∀ i, H i ≤ 9223372036854775807) (hM : ∀ i, M i ≤ 9223372036854775807) (i : Nat) : mxF H M i ≤ 9223372036854775807 := by
  have := hH i
  have := hM i
  unfold mxF
  split <;> omega
theorem mnF_bd {H M : Nat → Int} (hH : ∀ i, H i ≤ 9223372036854775807) (i : Nat) : mnF H M i ≤ 9223372036854775807 := by
  have := hH i
  unfold mnF
  split <;> omega
/-- An array that is filled: the first k places told, 0 behind. -/
def garr (F : Nat → Int) (k i : Nat) : Int := if i < k then F i else 0
def gcells (F : Nat → Int) (k : Nat) : Array Value := #[.int .i64 (garr F k 0), .int .i64 (garr F k 1), .int .i64 (garr F k 2), .int .i64 (garr F k 3)]
theorem gcells_size (F : Nat → Int) (k : Nat) : (gcells F k).size = 4 := rfl
theorem gcells_zero (F : Nat → Int) : gcells F 0 = #[.int .i64 0, .int .i64 0, .int .i64 0, .int .i64 0] := rfl
theorem gcells_four (F : Nat → Int) : gcells F 4 = #[.int .i64 (F 0), .int .i64 (F 1), .int .i64 (F 2), .int .i64 (F 3)] := rfl
theorem gcells_step (F : Nat → Int) (k : Nat) (hk : k < 4) : (gcells F k).setIfInBounds k (.int .i64 (F k)) = gcells F (k + 1) := by
  rcases (by omega : k = 0 ∨ k = 1 ∨ k = 2 ∨ k = 3) with rfl | rfl | rfl | rfl <;> rfl
end Go.Proofs.Ytafcajojepigiaa
