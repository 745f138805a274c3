/- The reference's minus, Digits and Text, called at any number or amount: the numeral; the four with commas between. Condition: 64 bits. -/
import Derived.Test.YtcflpclndjlchaaDoorTab
import Derived.Deep.QuietTactic
import Derived.BigQuiet
namespace Go.Proofs.YtcflpclndjlchaaDoor
open Go Go.RowKit
theorem dig_extract (k : Nat) (hk : k < 10) : (ByteArray.mk #[48, 49, 50, 51, 52, 53, 54, 55, 56, 57]).extract k (1 + k) = ⟨#[UInt8.ofNat (48 + k)]⟩ := by
  rcases (by omega : k = 0 ∨ k = 1 ∨ k = 2 ∨ k = 3 ∨ k = 4 ∨ k = 5 ∨ k = 6 ∨ k = 7 ∨ k = 8 ∨ k = 9) with rfl | rfl | rfl | rfl | rfl | rfl | rfl | rfl | rfl | rfl <;> decide
theorem app_list (a b : ByteArray) : (a ++ b).data.toList = a.data.toList ++ b.data.toList := by simp
theorem below_quiet2 {B : Nat} {a w : World} (h : Below B a w) (n : Nat) : Below B a (w.drewN n) := ⟨h.os, h.tape, h.output, h.size, h.block⟩
theorem ret_str {a b : ByteArray} (h : a = b) : Ending.returned (.string a) = .returned (.string b) := by rw [h]
theorem dec_len {u : Nat} (hu : u ≤ 9223372036854775808) : (Lib.decDigits u).length ≤ 20 := by
  rw [Lib.decDigits_length]
  by_cases hg : Lib.nDigits u ≤ 20
  · exact hg
  · exfalso
    by_cases hz : u = 0
    · subst hz
      rw [Lib.nDigits_small (by decide)] at hg
      omega
    · have := pow_le_nDigits u (by omega)
      have h4 : 10 ^ 20 ≤ 10 ^ (Lib.nDigits u - 1) := Nat.pow_le_pow_right (by decide) (by omega)
      have h5 : 10 ^ 20 = 100000000000000000000 := by decide
      omega
theorem minus_any (u : Nat) : ∀ (n : Int) (w : World), n = -(u : Int) → u ≤ 9223372036854775808 → Calls Tryd.prog 46 #[.int .i64 n] w fun e w' => e = .returned (.string ⟨(Lib.decDigits u).toArray⟩) ∧ w = w' := by
  induction u using Nat.strongRecOn with
  | _ u ih =>
    intro n w hn hu
    have hk : u % 10 < 10 := Nat.mod_lt _ (by decide)
    have hr : n.tmod 10 = -((u : Int) % 10) := by
      subst hn
      rw [Int.neg_tmod]
      rfl
    have hq : n.tdiv 10 = -((u : Int) / 10) := by
      subst hn
      rw [Int.neg_tdiv]
      rfl
    have hx := hid (dig_extract (u % 10) hk)
    by_cases h : u < 10
    · have hd := hid (show Lib.decDigits u = [UInt8.ofNat (48 + u % 10)] by rw [dec_small h, Nat.mod_eq_of_lt h])
      have h1 : (-10 : Int) < n := by omega
      clear hq ih
      go_enter Tryd.func46, Tryd.ntmps46
      go_wp2_with fail
      all_goals go_returns
      all_goals exact ⟨ret_str (hx.out.trans (by rw [hd.out])), rfl⟩
    · have hd := hid (dec_big h)
      have h1 : ¬ (-10 : Int) < n := by omega
      have K : Hid (∀ w, Calls Tryd.prog 46 #[.int .i64 (-((u : Int) / 10))] w fun e w' => e = .returned (.string ⟨(Lib.decDigits (u / 10)).toArray⟩) ∧ w = w') := hid fun w => ih (u / 10) (by omega) _ w (by omega) (by omega)
      have hl : (Lib.decDigits (u / 10)).length ≤ 20 := dec_len (by omega)
      have hS : ∃ sd sc : ByteArray, (⟨(Lib.decDigits (u / 10)).toArray⟩ : ByteArray) = sd ∧ (⟨#[UInt8.ofNat (48 + u % 10)]⟩ : ByteArray) = sc ∧ sd.size ≤ 20 ∧ sc.size = 1 ∧ sd ++ sc = ⟨(Lib.decDigits u).toArray⟩ :=
        ⟨_, _, rfl, rfl, by show (Lib.decDigits (u / 10)).toArray.size ≤ 20; rw [List.size_toArray]; exact hl, rfl, bytes_inj (by rw [app_list, hd.out])⟩
      obtain ⟨sd, sc, e1, e2, l1, l2, e3⟩ := hS
      rw [e1] at K
      have hx2 := hx.out
      rw [e2] at hx2
      have E3 := hid e3
      have hsum : sd.size + sc.size ≤ 9223372036854775807 := by omega
      clear ih hl hd hx e1 e2 e3
      go_enter Tryd.func46, Tryd.ntmps46
      go_wp2_with fail
      refine (K.out _).mono ?_
      rintro _ w2 ⟨rfl, rfl⟩
      go_wp2_with fail
      all_goals go_returns
      all_goals exact ⟨ret_str E3.out, rfl⟩
theorem digits_any (n : Int) (w : World) (hn : -9223372036854775808 ≤ n ∧ n ≤ 9223372036854775807) : Calls Tryd.prog 40 #[.int .i64 n] w fun e w' => e = .returned (.string (itoaB n)) ∧ w = w' := by
  obtain ⟨n0, n1⟩ := hn
  by_cases h : n < 0
  · have K := hid (fun w => minus_any n.natAbs n w (by omega) (by omega))
    have hd := hid (show Lib.itoa n = 45 :: Lib.decDigits n.natAbs by rw [Lib.itoa, if_pos h])
    have hS : ∃ sd : ByteArray, (⟨(Lib.decDigits n.natAbs).toArray⟩ : ByteArray) = sd ∧ sd.size ≤ 20 ∧ (⟨#[45]⟩ : ByteArray) ++ sd = itoaB n :=
      ⟨_, rfl, by show (Lib.decDigits n.natAbs).toArray.size ≤ 20; rw [List.size_toArray]; exact dec_len (by omega), bytes_inj (by rw [app_list, itoaB_list, hd.out]; simp)⟩
    obtain ⟨sd, e1, l1, e3⟩ := hS
    rw [e1] at K
    have E3 := hid e3
    have hsum : (⟨#[45]⟩ : ByteArray).size + sd.size ≤ 9223372036854775807 := by have : (⟨#[45]⟩ : ByteArray).size = 1 := rfl; omega
    have hsum2 : 1 + sd.size ≤ 9223372036854775807 := by omega
    clear hd e1 e3
    go_enter Tryd.func40, Tryd.ntmps40
    go_wp2_with fail
    refine (K.out _).mono ?_
    rintro _ w2 ⟨rfl, rfl⟩
    go_wp2_with fail
    all_goals go_returns
    all_goals exact ⟨ret_str E3.out, rfl⟩
  · have K := hid (fun w => minus_any n.toNat (-n) w (by omega) (by omega))
    have hd := hid (show Lib.itoa n = Lib.decDigits n.toNat by rw [Lib.itoa, if_neg h])
    have h0 : 0 ≤ n := by omega
    go_enter Tryd.func40, Tryd.ntmps40
    go_wp2_with fail
    refine (K.out _).mono ?_
    rintro _ w2 ⟨rfl, rfl⟩
    go_wp2_with fail
    all_goals go_returns
    all_goals exact ⟨ret_str (bytes_inj (by rw [itoaB_list, hd.out])), rfl⟩
set_option maxHeartbeats 2000000 in
theorem rtext_any (N : Nat → Int) (hN : ∀ i, N i ≤ 9223372036854775807 ∧ -9223372036854775808 ≤ N i) (w : World) : Calls Tryd.prog 25 #[.agg #[.int .i64 (N 0), .int .i64 (N 1), .int .i64 (N 2), .int .i64 (N 3)]] w fun e w' => e = .returned (.string ⟨(joinS fun i => itoaB (N i)).toArray⟩) ∧ Below w.heap.size w w' := by
  have K : ∀ i w, Calls Tryd.prog 40 #[.int .i64 (N i)] w fun e w' => e = .returned (.string (itoaB (N i))) ∧ w' = w := fun i w => (digits_any (N i) w ⟨(hN i).2, (hN i).1⟩).mono fun _ _ h => ⟨h.1, h.2.symm⟩
  have K0 := hid (K 0)
  have K1 := hid (K 1)
  have K2 := hid (K 2)
  have K3 := hid (K 3)
  clear K
  have L : ∀ i, (itoaB (N i)).size ≤ 21 := fun i => by
    have := itoa_len (hN i)
    show (Lib.itoa (N i)).toArray.size ≤ 21
    rw [List.size_toArray]
    exact this
  have l0 := L 0
  have l1 := L 1
  have l2 := L 2
  have l3 := L 3
  have hj := hid (show ∀ S : Nat → ByteArray, (((((S 0 ++ ⟨#[44]⟩) ++ S 1) ++ ⟨#[44]⟩) ++ S 2) ++ ⟨#[44]⟩) ++ S 3 = ⟨(joinS S).toArray⟩ from fun S => bytes_inj (by rw [show (⟨(joinS S).toArray⟩ : ByteArray).data.toList = joinS S by simp, join_four]; simp))
  have hj2 := hid (hj.out fun i => itoaB (N i))
  clear hN L hj
  generalize (joinS fun i => itoaB (N i)).toArray = R at *
  generalize itoaB (N 0) = s0 at *
  generalize itoaB (N 1) = s1 at *
  generalize itoaB (N 2) = s2 at *
  generalize itoaB (N 3) = s3 at *
  go_enter Tryd.func25, Tryd.ntmps25
  go_wp2_with fail
  go_quiet (first | (go_at_call_of 40 (Value.int IntKind.i64 (N 0)); exact Calls.quiet_of_same (K0.out _)) | (go_at_call_of 40 (Value.int IntKind.i64 (N 1)); exact Calls.quiet_of_same (K1.out _)) | (go_at_call_of 40 (Value.int IntKind.i64 (N 2)); exact Calls.quiet_of_same (K2.out _)) | (go_at_call_of 40 (Value.int IntKind.i64 (N 3)); exact Calls.quiet_of_same (K3.out _)))
  go_wp2
  all_goals go_returns
  all_goals exact ⟨ret_str (by first | exact hj2.out | (rw [← hj2.out]; simp)), below_quiet2 (by go_grown) _⟩
end Go.Proofs.YtcflpclndjlchaaDoor
