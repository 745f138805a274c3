/- The reference's way to compare two shares, in numbers: whole parts first, then, turned about, what is left. Condition: none. -/
import Derived.Test.YtafcajojepigiaaMath
import Derived.Test.YtafcajojepigiaaPart
namespace Go.Proofs.Ytafcajojepigiaa
open Go Go.RowKit
def ht (n d : Int) : Int := if n = 0 then 0 else if d = 0 then 2 else 1
theorem sgn_lt {x y : Int} (h : x < y) : sgn x y = -1 := by rw [sgn, if_pos h]
theorem sgn_gt {x y : Int} (h : y < x) : sgn x y = 1 := by rw [sgn, if_neg (by omega), if_pos h]
theorem sgn_eq {x y : Int} (h : x = y) : sgn x y = 0 := by rw [sgn, if_neg (by omega), if_neg (by omega)]
/-- Of shares with wholes above 0 the comparison is that of the cross products. -/
theorem cross_pos {n d m e : Int} (hn : 0 ≤ n) (hd : 0 < d) (hm : 0 ≤ m) (he : 0 < e) : cmpS n d m e = sgn (n * e) (m * d) := by
  rw [cmpS_cross]
  have P : ∀ n d : Int, 0 ≤ n → 0 < d → (n = 0 ∧ pl n d = (0, 1)) ∨ (0 < n ∧ pl n d = (n, d)) := fun n d h0 h1 => by
    by_cases h : n ≤ 0
    · exact .inl ⟨by omega, by rw [pl, if_pos h]⟩
    · exact .inr ⟨by omega, by rw [pl, if_neg h, if_neg (by omega)]⟩
  rcases P n d hn hd with ⟨rfl, e1⟩ | ⟨h1, e1⟩ <;> rcases P m e hm he with ⟨rfl, e2⟩ | ⟨h2, e2⟩ <;> rw [e1, e2]
  · simp
  · have := Int.mul_pos h2 hd
    rw [sgn_lt (by simp; omega), sgn_lt (by simp; exact this)]
  · have := Int.mul_pos h1 he
    rw [sgn_gt (by simp; omega), sgn_gt (by simp; exact this)]
theorem loose {n d m e : Int} (hn : 0 ≤ n) (hd : 0 ≤ d) (hm : 0 ≤ m) (he : 0 ≤ e) (h : d = 0 ∨ e = 0) : cmpS n d m e = sgn (ht n d) (ht m e) := by
  rw [cmpS_cross]
  have P : ∀ n d : Int, 0 ≤ n → 0 ≤ d → (n = 0 ∧ pl n d = (0, 1) ∧ ht n d = 0) ∨ (0 < n ∧ d = 0 ∧ pl n d = (1, 0) ∧ ht n d = 2) ∨ (0 < n ∧ 0 < d ∧ pl n d = (n, d) ∧ ht n d = 1) := fun n d h0 h1 => by
    by_cases h : n ≤ 0
    · exact .inl ⟨by omega, by rw [pl, if_pos h], by rw [ht, if_pos (by omega)]⟩
    · by_cases hd : d ≤ 0
      · exact .inr (.inl ⟨by omega, by omega, by rw [pl, if_neg h, if_pos hd], by rw [ht, if_neg (by omega), if_pos (by omega)]⟩)
      · exact .inr (.inr ⟨by omega, by omega, by rw [pl, if_neg h, if_neg hd], by rw [ht, if_neg (by omega), if_neg (by omega)]⟩)
  rcases P n d hn hd with ⟨a1, e1, f1⟩ | ⟨a1, a2, e1, f1⟩ | ⟨a1, a2, e1, f1⟩ <;> rcases P m e hm he with ⟨b1, e2, f2⟩ | ⟨b1, b2, e2, f2⟩ | ⟨b1, b2, e2, f2⟩ <;> rw [e1, e2, f1, f2]
  · rw [sgn_eq (by simp), sgn_eq rfl]
  · rw [sgn_lt (by simp), sgn_lt (by omega)]
  · rw [sgn_lt (by simp; omega), sgn_lt (by omega)]
  · rw [sgn_gt (by simp), sgn_gt (by omega)]
  · rw [sgn_eq (by simp), sgn_eq rfl]
  · rw [sgn_gt (by simp; omega), sgn_gt (by omega)]
  · rw [sgn_gt (by simp; omega), sgn_gt (by omega)]
  · rw [sgn_lt (by simp; omega), sgn_lt (by omega)]
  · exfalso; omega
theorem split_cross (n d m e : Int) : n * e - m * d = d * e * (n / d - m / e) + ((n % d) * e - (m % e) * d) := by
  have h1 := Int.mul_ediv_add_emod n d
  have h2 := Int.mul_ediv_add_emod m e
  generalize n / d = x at *
  generalize m / e = y at *
  generalize n % d = p at *
  generalize m % e = q at *
  subst h1 h2
  rw [Int.add_mul, Int.add_mul, Int.mul_sub]
  have a1 : d * x * e = d * e * x := by rw [Int.mul_right_comm]
  have a2 : e * y * d = d * e * y := by rw [Int.mul_right_comm, Int.mul_comm e d]
  rw [a1, a2]
  omega
theorem big_gt {n d m e : Int} (hn : 0 ≤ n) (hd : 0 < d) (hm : 0 ≤ m) (he : 0 < e) (h : m / e < n / d) : cmpS n d m e = 1 := by
  rw [cross_pos hn hd hm he]
  apply sgn_gt
  have s := split_cross n d m e
  have p0 := Int.emod_nonneg n (show d ≠ 0 by omega)
  have q1 := Int.emod_lt_of_pos m he
  have k1 : d * e * 1 ≤ d * e * (n / d - m / e) := Int.mul_le_mul_of_nonneg_left (by omega) (by have := Int.mul_pos hd he; omega)
  have k2 : 0 ≤ n % d * e := Int.mul_nonneg p0 (by omega)
  have k3 : (m % e) * d < e * d := Int.mul_lt_mul_of_pos_right q1 hd
  rw [Int.mul_comm e d] at k3
  omega
theorem big_lt {n d m e : Int} (hn : 0 ≤ n) (hd : 0 < d) (hm : 0 ≤ m) (he : 0 < e) (h : n / d < m / e) : cmpS n d m e = -1 := by
  have t := cmp_turn m e n d
  rw [big_gt hm he hn hd h] at t
  exact t
theorem rem_cross {n d m e : Int} (hn : 0 ≤ n) (hd : 0 < d) (hm : 0 ≤ m) (he : 0 < e) (h : n / d = m / e) : cmpS n d m e = sgn ((n % d) * e) ((m % e) * d) := by
  rw [cross_pos hn hd hm he]
  have s := split_cross n d m e
  rw [h, Int.sub_self, Int.mul_zero, Int.zero_add] at s
  rcases sgn_cases (n * e) (m * d) with ⟨g, k⟩ | ⟨g, k⟩ | ⟨g, k⟩
  · rw [g, sgn_lt (by omega)]
  · rw [g, sgn_eq (by omega)]
  · rw [g, sgn_gt (by omega)]
theorem rem_none {n d m e : Int} (hn : 0 ≤ n) (hd : 0 < d) (hm : 0 ≤ m) (he : 0 < e) (h : n / d = m / e) (h0 : n % d = 0 ∨ m % e = 0) : cmpS n d m e = if 0 < n % d then 1 else if 0 < m % e then -1 else 0 := by
  rw [rem_cross hn hd hm he h]
  have p0 := Int.emod_nonneg n (show d ≠ 0 by omega)
  have q0 := Int.emod_nonneg m (show e ≠ 0 by omega)
  generalize n % d = p at *
  generalize m % e = q at *
  by_cases hp : 0 < p
  · have hq : q = 0 := by omega
    subst hq
    have := Int.mul_pos hp he
    rw [if_pos hp, sgn_gt (by simp; exact this)]
  · have hp' : p = 0 := by omega
    subst hp'
    rw [if_neg hp]
    by_cases hq : 0 < q
    · have := Int.mul_pos hq hd
      rw [if_pos hq, sgn_lt (by simp; exact this)]
    · have hq' : q = 0 := by omega
      subst hq'
      rw [if_neg hq, sgn_eq (by simp)]
theorem rem_turn {n d m e : Int} (hn : 0 ≤ n) (hd : 0 < d) (hm : 0 ≤ m) (he : 0 < e) (h : n / d = m / e) (hp : 0 < n % d) (hq : 0 < m % e) : cmpS n d m e = cmpS e (m % e) d (n % d) := by
  rw [rem_cross hn hd hm he h, cross_pos (by omega) hq (by omega) hp]
  rw [Int.mul_comm e, Int.mul_comm d]
theorem cmpS_mx (a b c d : Int) : cmpS a b c d = cmpS (mx0 a) (mx0 b) (mx0 c) (mx0 d) := by
  have P : ∀ n d : Int, pl n d = pl (mx0 n) (mx0 d) := fun n d => by
    unfold pl mx0
    repeat' split
    all_goals first | rfl | (exfalso; omega) | (simp; omega)
  unfold cmpS
  rw [P a b, P c d]
end Go.Proofs.Ytafcajojepigiaa
