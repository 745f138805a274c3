/- A text's number, as both read it: 1 to 10 digits, no nought ahead. Condition: none. -/
import Derived.Test.YtcflpclndjlchaaDoorVec
import Derived.RegionTactic
import Derived.Deep.RegionWith
namespace Go.Proofs.YtcflpclndjlchaaDoor
open Go Go.RowKit
/-- The number of the first k signs. -/
def accF (f : Nat → Nat) : Nat → Int
  | 0 => 0
  | i + 1 => 10 * accF f i + ((f i : Int) - 48)
/-- A text's number: 1 to 10 digits, no nought ahead; else -1. -/
def numF (n : Nat) (f : Nat → Nat) : Int := if n = 0 ∨ 10 < n ∨ (1 < n ∧ f 0 = 48) then -1 else if ∀ i, i < n → 48 ≤ f i ∧ f i ≤ 57 then accF f n else -1
def byteAt (s : ByteArray) (i : Nat) : Nat := (s.data.toList.getD i 0).toNat
theorem byte_is (s : ByteArray) (i : Nat) (h : i < s.size) : (s[i]'h).toNat = byteAt s i := by
  unfold byteAt
  have h' : i < s.data.toList.length := by simpa using h
  rw [List.getD_eq_getElem?_getD, List.getElem?_eq_getElem h']
  rfl
theorem acc_bd {f : Nat → Nat} {k : Nat} (h : ∀ i, i < k → 48 ≤ f i ∧ f i ≤ 57) : 0 ≤ accF f k ∧ accF f k < ((10 ^ k : Nat) : Int) := by
  induction k with
  | zero => exact ⟨by simp [accF], by simp [accF]⟩
  | succ k ih =>
    obtain ⟨h0, h1⟩ := ih fun i hi => h i (by omega)
    obtain ⟨h2, h3⟩ := h k (by omega)
    unfold accF
    rw [Nat.pow_succ]
    generalize 10 ^ k = p at *
    omega
theorem acc_le {f : Nat → Nat} {k : Nat} (hk : k ≤ 10) (h : ∀ i, i < k → 48 ≤ f i ∧ f i ≤ 57) : 0 ≤ accF f k ∧ accF f k ≤ 9999999999 := by
  obtain ⟨h0, h1⟩ := acc_bd h
  have h2 : 10 ^ k ≤ 10 ^ 10 := Nat.pow_le_pow_right (by decide) hk
  have h3 : 10 ^ 10 = 10000000000 := by decide
  rw [h3] at h2
  generalize 10 ^ k = p at *
  omega
theorem toList_empty (s : ByteArray) : s.toList.isEmpty = decide (s.size = 0) := by
  rw [ByteArray.toList_eq]
  cases h : s.data.toList with
  | nil =>
    have : s.size = 0 := by
      show s.data.size = 0
      rw [← Array.length_toList, h]; rfl
    simp [this]
  | cons a l =>
    have : s.size ≠ 0 := by
      show s.data.size ≠ 0
      rw [← Array.length_toList, h]; simp
    simp [this]
end Go.Proofs.YtcflpclndjlchaaDoor
