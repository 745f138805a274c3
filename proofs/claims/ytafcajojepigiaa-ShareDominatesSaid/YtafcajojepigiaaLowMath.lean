/- The lowest terms of a share, in numbers: Euclid's greatest divisor; the same share; lowest of lowest. Condition: none. -/
import Derived.Test.YtafcajojepigiaaMath
import Derived.Test.YtafcajojepigiaaPart
namespace Go.Proofs.Ytafcajojepigiaa
open Go Go.RowKit
theorem gcd_step (a b : Nat) : Nat.gcd b (a % b) = Nat.gcd a b := by
  rw [Nat.gcd_comm b (a % b), ← Nat.gcd_rec b a, Nat.gcd_comm]
/-- The greatest divisor of a plain share's two numbers. -/
def gcS (n d : Int) : Nat := Nat.gcd (pl n d).1.toNat (pl n d).2.toNat
def lowF (n d : Int) : Int × Int := ((((pl n d).1.toNat / gcS n d : Nat) : Int), (((pl n d).2.toNat / gcS n d : Nat) : Int))
theorem pl_fix {n d : Int} (h : Val (n, d)) (h1 : n = 0 → d = 1) (h2 : d = 0 → n = 1) : pl n d = (n, d) := by
  obtain ⟨a, b, c⟩ := h
  simp only at a b c
  unfold pl
  split
  · obtain rfl : n = 0 := by omega
    rw [h1 rfl]
  · split
    · obtain rfl : d = 0 := by omega
      rw [h2 rfl]
    · rfl
/-- A plain share: of 0 and 1, of 1 and 0, or both above 0. -/
theorem pl_three (n d : Int) : (pl n d = (0, 1)) ∨ (pl n d = (1, 0)) ∨ ∃ p q : Nat, 0 < p ∧ 0 < q ∧ pl n d = ((p : Int), (q : Int)) ∧ n = p ∧ d = q := by
  unfold pl
  split
  · exact .inl rfl
  · split
    · exact .inr (.inl rfl)
    · exact .inr (.inr ⟨n.toNat, d.toNat, by omega, by omega, by simp; omega, by omega, by omega⟩)
theorem low_three (n d : Int) : (pl n d = (0, 1) ∧ lowF n d = (0, 1) ∧ gcS n d = 1) ∨ (pl n d = (1, 0) ∧ lowF n d = (1, 0) ∧ gcS n d = 1) ∨ ∃ p q g : Nat, 0 < p ∧ 0 < q ∧ g = Nat.gcd p q ∧ 0 < g ∧ pl n d = ((p : Int), (q : Int)) ∧ gcS n d = g ∧ lowF n d = (((p / g : Nat) : Int), ((q / g : Nat) : Int)) ∧ n = p ∧ d = q := by
  rcases pl_three n d with h | h | ⟨p, q, hp, hq, h, h1, h2⟩
  · exact .inl ⟨h, by simp [lowF, gcS, h], by simp [gcS, h]⟩
  · exact .inr (.inl ⟨h, by simp [lowF, gcS, h], by simp [gcS, h]⟩)
  · exact .inr (.inr ⟨p, q, Nat.gcd p q, hp, hq, rfl, Nat.gcd_pos_of_pos_left _ hp, h, by simp [gcS, h], by simp only [lowF, gcS, h, Int.toNat_natCast], h1, h2⟩)
theorem low_plain (n d : Int) : pl (lowF n d).1 (lowF n d).2 = lowF n d := by
  rcases low_three n d with ⟨_, h, _⟩ | ⟨_, h, _⟩ | ⟨p, q, g, hp, hq, hg, hg0, _, _, h, _, _⟩
  · rw [h]; rfl
  · rw [h]; rfl
  · have h1 : 0 < p / g := Nat.div_pos (Nat.le_of_dvd hp (hg ▸ Nat.gcd_dvd_left p q)) hg0
    have h2 : 0 < q / g := Nat.div_pos (Nat.le_of_dvd hq (hg ▸ Nat.gcd_dvd_right p q)) hg0
    rw [h]
    simp only
    generalize p / g = x at *
    generalize q / g = y at *
    exact pl_fix ⟨by simp only; omega, by simp only; omega, by simp only; omega⟩ (by omega) (by omega)
theorem low_same (n d : Int) : cmpS (lowF n d).1 (lowF n d).2 n d = 0 := by
  rw [cmpS_cross, low_plain]
  rcases low_three n d with ⟨h1, h, _⟩ | ⟨h1, h, _⟩ | ⟨p, q, g, hp, hq, hg, hg0, h1, _, h, _, _⟩
  · rw [h, h1]; rfl
  · rw [h, h1]; rfl
  · rw [h, h1]
    simp only
    obtain ⟨x, hx⟩ : g ∣ p := hg ▸ Nat.gcd_dvd_left p q
    obtain ⟨y, hy⟩ : g ∣ q := hg ▸ Nat.gcd_dvd_right p q
    have e : ((p / g : Nat) : Int) * (q : Int) = (p : Int) * ((q / g : Nat) : Int) := by
      rw [hx, hy, Nat.mul_div_cancel_left _ hg0, Nat.mul_div_cancel_left _ hg0, ← Int.natCast_mul, ← Int.natCast_mul]
      congr 1
      rw [Nat.mul_left_comm, Nat.mul_assoc]
    rw [e]
    unfold sgn
    rw [if_neg (by omega), if_neg (by omega)]
theorem low_low (n d : Int) : lowF (lowF n d).1 (lowF n d).2 = lowF n d := by
  rcases low_three n d with ⟨h1, h, _⟩ | ⟨h1, h, _⟩ | ⟨p, q, g, hp, hq, hg, hg0, h1, _, h, _, _⟩
  · rw [h]; decide
  · rw [h]; decide
  · have e := low_plain n d
    have hc : Nat.gcd (p / g) (q / g) = 1 := by
      subst hg
      exact Nat.coprime_div_gcd_div_gcd hg0
    have hk : gcS (lowF n d).1 (lowF n d).2 = 1 := by
      unfold gcS
      rw [e, h]
      simp only [Int.toNat_natCast]
      exact hc
    show ((((pl (lowF n d).1 (lowF n d).2).1.toNat / gcS (lowF n d).1 (lowF n d).2 : Nat) : Int), (((pl (lowF n d).1 (lowF n d).2).2.toNat / gcS (lowF n d).1 (lowF n d).2 : Nat) : Int)) = _
    rw [hk, e, h]
    simp only [Int.toNat_natCast, Nat.div_one]
theorem low_nat {n d : Int} (hn : n ≤ 9223372036854775807) (hd : d ≤ 9223372036854775807) : ∃ p q g : Nat, pl n d = ((p : Int), (q : Int)) ∧ lowF n d = (((p / g : Nat) : Int), ((q / g : Nat) : Int)) ∧ Nat.gcd p q = g ∧ 0 < g ∧ p ≤ 9223372036854775807 ∧ q ≤ 9223372036854775807 := by
  rcases low_three n d with ⟨h1, h, _⟩ | ⟨h1, h, _⟩ | ⟨p, q, g, hp, hq, hg, hg0, h1, _, h, e1, e2⟩
  · exact ⟨0, 1, 1, h1, h, rfl, by decide, by decide, by decide⟩
  · exact ⟨1, 0, 1, h1, h, rfl, by decide, by decide, by decide⟩
  · exact ⟨p, q, g, h1, h, hg.symm, hg0, by omega, by omega⟩
theorem low_bd {n d : Int} (hn : n ≤ 9223372036854775807) (hd : d ≤ 9223372036854775807) : (lowF n d).1 ≤ 9223372036854775807 ∧ (lowF n d).2 ≤ 9223372036854775807 := by
  rcases low_three n d with ⟨h1, h, _⟩ | ⟨h1, h, _⟩ | ⟨p, q, g, hp, hq, hg, hg0, h1, _, h, e1, e2⟩
  · rw [h]; decide
  · rw [h]; decide
  · rw [h]
    have a := Nat.div_le_self p g
    have b := Nat.div_le_self q g
    simp only
    omega
end Go.Proofs.Ytafcajojepigiaa
