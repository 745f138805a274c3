/- The reader's Uint, Int, Text, End and the functions below them, called at any reader. Condition: the bytes stand in memory. -/
import Derived.Test.YtanjgobcfgmpfaaRUint
namespace Go.Proofs.Ytanjgobcfgmpfaa
open Go Go.RowKit
theorem uR_lt (bs : List UInt8) : ∀ i n, i ≤ 9 → n < 128 ^ i → (uR bs i n).1 < 18446744073709551616 := by
  induction bs with
  | nil => intro i n _ _; show (0 : Nat) < _; decide
  | cons c t ih =>
    intro i n hi hn
    have hc := UInt8.toNat_lt c
    rw [uR_cons]
    split
    · show (0 : Nat) < _; decide
    · rename_i hbad
      have p1 := pow_ten i hi
      have hm : c.toNat % 128 * 128 ^ i < 9223372036854775809 := by
        by_cases h9 : i = 9
        · subst h9
          have e : (128 : Nat) ^ 9 = 9223372036854775808 := by decide
          rw [e]
          have : c.toNat % 128 ≤ 1 := by omega
          omega
        · have p2 : 128 ^ i ≤ 128 ^ 8 := Nat.pow_le_pow_right (by decide) (by omega)
          have e : (128 : Nat) ^ 8 = 72057594037927936 := by decide
          rw [e] at p2
          have h3 : c.toNat % 128 * 128 ^ i ≤ 127 * 128 ^ i := Nat.mul_le_mul_right _ (by omega)
          omega
      split
      · show n + c.toNat % 128 * 128 ^ i < _
        omega
      · refine ih (i + 1) _ (by omega) ?_
        rw [Nat.pow_succ]
        have h3 : c.toNat % 128 * 128 ^ i ≤ 127 * 128 ^ i := Nat.mul_le_mul_right _ (by omega)
        omega
theorem uR_err (bs : List UInt8) : ∀ i n, (uR bs i n).2.2 ≠ 0 → (uR bs i n).1 = 0 := by
  induction bs with
  | nil => intro i n _; rfl
  | cons c t ih =>
    intro i n h
    rw [uR_cons] at h ⊢
    split
    · rfl
    · rename_i hb
      rw [if_neg hb] at h
      split
      · rename_i hc
        rw [if_pos hc] at h
        exact absurd rfl h
      · rename_i hc
        rw [if_neg hc] at h
        exact ih _ _ h
theorem uR_len (bs : List UInt8) : ∀ i n, (uR bs i n).2.1.length ≤ bs.length := by
  induction bs with
  | nil => intro i n; exact Nat.le_refl _
  | cons c t ih =>
    intro i n
    rw [uR_cons]
    split
    · exact Nat.zero_le _
    · split
      · simp
      · have := ih (i + 1) (n + c.toNat % 128 * 128 ^ i)
        simp only [List.length_cons]
        omega
theorem takeU_lt (bs : List UInt8) (e : Int) : (takeU bs e).1 < 18446744073709551616 := by
  unfold takeU
  split
  · exact uR_lt bs 0 0 (by decide) (by decide)
  · show (0 : Nat) < _; decide
theorem takeU_err {bs : List UInt8} {e : Int} (h : (takeU bs e).2.2 ≠ 0) : (takeU bs e).1 = 0 := by
  unfold takeU at *
  split
  · rename_i h0
    rw [if_pos h0] at h
    exact uR_err bs 0 0 h
  · rfl
theorem takeU_len (bs : List UInt8) (e : Int) : (takeU bs e).2.1.length ≤ bs.length := by
  unfold takeU
  split
  · exact uR_len bs 0 0
  · exact Nat.le_refl _
theorem ruint_any (rb : Nat) (bs : List UInt8) (e : Int) (w : World) (h : RS w rb bs e) (hlen : bs.length ≤ 549755813888) :
    Calls Try.prog 19 #[.pointer (some ⟨rb, 0, none⟩)] w fun en w' => en = .returned (.int .u64 ((takeU bs e).1 : Nat)) ∧ RS w' rb (takeU bs e).2.1 (takeU bs e).2.2 ∧ w.grownBy w' (some rb) := by
  by_cases h0 : e = 0
  · subst h0
    exact ruint_ok rb bs w h hlen
  · have et : takeU bs e = (0, bs, e) := by rw [takeU, if_neg h0]
    rw [et]
    have HS := hid h
    obtain ⟨A, cap, hR, hcap, hb⟩ := h
    obtain ⟨c0, c1⟩ := two hR
    have n1 : (e == 0) = false := by simp [h0]
    clear hR hb hcap et
    go_enter Try.func19, Try.ntmps19
    go_wp2_with fail
    go_rounds 1
    all_goals go_wp2_with fail
    all_goals go_returns
    all_goals exact ⟨rfl, HS.out, World.grownBy.refl _ _⟩
/-- The number that a folded one tells. -/
def unfoldF (n : Nat) : Int := if n % 2 = 1 then -1 - ((n / 2 : Nat) : Int) else ((n / 2 : Nat) : Int)
theorem unfold_any (n : Nat) (w : World) (hn : n < 18446744073709551616) : Calls Try.prog 37 #[.int .u64 n] w fun e w' => e = .returned (.int .i64 (unfoldF n)) ∧ w = w' := by
  have ha : bits .and .u64 (n : Int) 1 = ((n % 2 : Nat) : Int) := by
    have := u64_and_nat n 1 hn (by decide)
    rw [nat_mask1] at this
    exact this
  have hn' : (n : Int) < 18446744073709551616 := by omega
  by_cases h : n % 2 = 1
  · have e : unfoldF n = -1 - ((n / 2 : Nat) : Int) := by rw [unfoldF, if_pos h]
    rw [e]
    rw [h] at ha
    clear e
    go_enter Try.func37, Try.ntmps37
    go_wp2_with fail
    all_goals go_returns
    all_goals exact ⟨by first | rfl | (congr 2; omega), rfl⟩
  · have e : unfoldF n = ((n / 2 : Nat) : Int) := by rw [unfoldF, if_neg h]
    rw [e]
    rw [show n % 2 = 0 by omega] at ha
    clear e
    go_enter Try.func37, Try.ntmps37
    go_wp2_with fail
    all_goals go_returns
    all_goals exact ⟨by first | rfl | (congr 2; omega), rfl⟩
theorem rint_any (rb : Nat) (bs : List UInt8) (e : Int) (w : World) (h : RS w rb bs e) (hlen : bs.length ≤ 549755813888) :
    Calls Try.prog 21 #[.pointer (some ⟨rb, 0, none⟩)] w fun en w' => en = .returned (.int .i64 (unfoldF (takeU bs e).1)) ∧ RS w' rb (takeU bs e).2.1 (takeU bs e).2.2 ∧ w.grownBy w' (some rb) := by
  have K := hid (ruint_any rb bs e w h hlen)
  have KU := hid (fun w => unfold_any (takeU bs e).1 w (takeU_lt bs e))
  clear h
  generalize takeU bs e = r at *
  go_enter Try.func21, Try.ntmps21
  go_wp2_with fail
  refine K.out.mono ?_
  rintro _ w1 ⟨rfl, hs, hg⟩
  have S1 := hid hs
  have G1 := hid hg
  clear hs hg
  go_wp2_with fail
  refine (KU.out _).mono ?_
  rintro _ w2 ⟨rfl, rfl⟩
  go_wp2_with fail
  all_goals go_returns
  all_goals exact ⟨rfl, S1.out, G1.out⟩
/-- What the length of a text or of a row is, and what is left. -/
def takeL (m : Nat) (bs : List UInt8) (e : Int) : Nat × List UInt8 × Int := if m < (takeU bs e).1 then (0, [], 11) else takeU bs e
def mostF (most : Int) : Nat := if most < 0 then 0 else most.toNat
theorem takeL_err {m : Nat} {bs : List UInt8} {e : Int} (h : (takeL m bs e).2.2 ≠ 0) : (takeL m bs e).1 = 0 := by
  unfold takeL at *
  split
  · rfl
  · rename_i h0
    rw [if_neg h0] at h
    exact takeU_err h
theorem takeL_len (m : Nat) (bs : List UInt8) (e : Int) : (takeL m bs e).2.1.length ≤ bs.length := by
  unfold takeL
  split
  · exact Nat.zero_le _
  · exact takeU_len bs e
theorem takeL_le (m : Nat) (bs : List UInt8) (e : Int) : (takeL m bs e).1 ≤ m := by
  unfold takeL
  split
  · exact Nat.zero_le _
  · omega
theorem rlen_any (rb : Nat) (bs : List UInt8) (e most : Int) (w : World) (h : RS w rb bs e) (hlen : bs.length ≤ 549755813888) (hm : -9223372036854775808 ≤ most ∧ most ≤ 9223372036854775807) :
    Calls Try.prog 38 #[.pointer (some ⟨rb, 0, none⟩), .int .i64 most] w fun en w' => en = .returned (.int .i64 ((takeL (mostF most) bs e).1 : Nat)) ∧ RS w' rb (takeL (mostF most) bs e).2.1 (takeL (mostF most) bs e).2.2 ∧ w.grownBy w' (some rb) := by
  have K := hid (ruint_any rb bs e w h hlen)
  have hlt := takeU_lt bs e
  have herr : (takeU bs e).2.2 ≠ 0 → (takeU bs e).1 = 0 := takeU_err
  obtain ⟨m0, m1⟩ := hm
  have ht : takeL (mostF most) bs e = if mostF most < (takeU bs e).1 then (0, [], 11) else takeU bs e := rfl
  rw [ht]
  clear h ht
  generalize takeU bs e = r at *
  obtain ⟨n, l, e1⟩ := r
  simp only at hlt herr K ⊢
  have hw : (most < 0 ∧ mostF most = 0) ∨ (¬ most < 0 ∧ mostF most = most.toNat) := by unfold mostF; split <;> simp_all
  by_cases hn : mostF most < n
  · rw [if_pos hn]
    have he : e1 = 0 := by
      by_cases he : e1 = 0
      · exact he
      · have := herr he
        omega
    subst he
    rcases hw with ⟨hm, h2⟩ | ⟨hm, h2⟩
    all_goals
      rw [h2] at hn
      have h3 : (0 : Int) < (n : Int) := by omega
      have h4 : most < (n : Int) := by omega
      clear herr
      go_enter Try.func38, Try.ntmps38
      go_wp2_with fail
      refine K.out.mono ?_
      rintro _ w1 ⟨rfl, hs, hg⟩
      have KF := hid (fail_ok rb l 11 w1 hs (by decide))
      have G1 := hid hg
      clear hs hg
      go_wp2_with fail
      refine KF.out.mono ?_
      rintro _ w2 ⟨rfl, hs, hg⟩
      have S2 := hid hs
      have G2 := hid (grown_trans G1.out hg)
      clear hs hg
      go_wp2_with fail
      all_goals go_returns
      all_goals exact ⟨rfl, S2.out, G2.out⟩
  · rw [if_neg hn]
    clear herr
    rcases hw with ⟨hm, h2⟩ | ⟨hm, h2⟩
    all_goals
      rw [h2] at hn
      have h4 : ¬ (if most < 0 then 0 else most) < (n : Int) := by split <;> omega
      have h5 : (n : Int) ≤ 9223372036854775807 := by omega
      have h6 : most < 0 → (n : Int) = 0 := by omega
      go_enter Try.func38, Try.ntmps38
      go_wp2_with fail
      refine K.out.mono ?_
      rintro _ w1 ⟨rfl, hs, hg⟩
      have S1 := hid hs
      have G1 := hid hg
      clear hs hg
      go_wp2_with fail
      all_goals go_returns
      all_goals exact ⟨by first | rfl | exact ret_i64 (by omega), S1.out, G1.out⟩
end Go.Proofs.Ytanjgobcfgmpfaa
