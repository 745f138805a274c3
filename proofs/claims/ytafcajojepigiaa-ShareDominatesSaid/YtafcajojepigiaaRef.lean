/- The reference's Compare, called at any two shares, tells what share.Compare tells. Condition: none. -/
import Derived.Test.YtafcajojepigiaaRefMath
import Derived.Test.YtafcajojepigiaaDom
namespace Go.Proofs.Ytafcajojepigiaa
open Go Go.RowKit
theorem rplain_any (n d : Int) (w : World) : Calls Try.prog 26 #[.agg #[.int .i64 n, .int .i64 d]] w fun e w' => e = .returned (.agg #[.int .i64 (mx0 n), .int .i64 (mx0 d)]) ∧ (w.alloc (.cells #[.int .i64 n, .int .i64 d] 23)).alloc (.cells #[.int .i64 (mx0 n), .int .i64 (mx0 d)] 23) = w' := by
  have e1 : (n < 0 ∧ mx0 n = 0) ∨ (¬ n < 0 ∧ mx0 n = n) := by unfold mx0; split <;> simp_all
  have e2 : (d < 0 ∧ mx0 d = 0) ∨ (¬ d < 0 ∧ mx0 d = d) := by unfold mx0; split <;> simp_all
  rcases e1 with ⟨a1, e1⟩ | ⟨a1, e1⟩ <;> rcases e2 with ⟨a2, e2⟩ | ⟨a2, e2⟩
  all_goals
    rw [e1, e2]
    clear e1 e2
    go_enter Try.func26, Try.ntmps26
    go_wp2
    all_goals go_returns
    all_goals exact ⟨rfl, rfl⟩
theorem height_any (n d : Int) (w : World) : Calls Try.prog 33 #[.agg #[.int .i64 n, .int .i64 d]] w fun e w' => e = .returned (.int .i64 (ht n d)) ∧ w.alloc (.cells #[.int .i64 n, .int .i64 d] 23) = w' := by
  rcases (by omega : n = 0 ∨ (¬ n = 0 ∧ d = 0) ∨ (¬ n = 0 ∧ ¬ d = 0)) with rfl | ⟨h, rfl⟩ | ⟨h, h'⟩
  · have e : ht 0 d = 0 := by simp [ht]
    rw [e]
    clear e
    go_enter Try.func33, Try.ntmps33
    go_wp2
    all_goals go_returns
    all_goals exact ⟨rfl, rfl⟩
  · have e : ht n 0 = 2 := by simp [ht, h]
    rw [e]
    clear e
    go_enter Try.func33, Try.ntmps33
    go_wp2
    all_goals go_returns
    all_goals exact ⟨rfl, rfl⟩
  · have e : ht n d = 1 := by simp [ht, h, h']
    rw [e]
    clear e
    go_enter Try.func33, Try.ntmps33
    go_wp2
    all_goals go_returns
    all_goals exact ⟨rfl, rfl⟩
theorem loose_any (n d m e : Int) (w : World) : Calls Try.prog 27 #[.agg #[.int .i64 n, .int .i64 d], .agg #[.int .i64 m, .int .i64 e]] w fun en w' => en = .returned (.int .i64 (sgn (ht n d) (ht m e))) ∧ Below w.heap.size w w' := by
  have k1 := hid (height_any n d)
  have k2 := hid (height_any m e)
  generalize ht n d = x at *
  generalize ht m e = y at *
  rcases sgn_cases x y with ⟨hs, h⟩ | ⟨hs, h⟩ | ⟨hs, h⟩
  all_goals
    rw [hs]
    clear hs
    go_enter Try.func27, Try.ntmps27
    go_wp2_with fail
    refine (k1.out _).mono ?_
    rintro _ w1 ⟨rfl, rfl⟩
    go_wp2_with fail
    refine (k2.out _).mono ?_
    rintro _ w1 ⟨rfl, rfl⟩
    go_wp2_with fail
    all_goals go_returns
    all_goals exact ⟨rfl, by go_grown⟩
theorem mx0_id {n : Int} (h : 0 ≤ n) : mx0 n = n := by rw [mx0, if_neg (by omega)]
theorem mx0_pos (n : Int) : 0 ≤ mx0 n := by unfold mx0; split <;> omega
theorem even_or {x : Int} (h : 0 ≤ x) : x = 0 ∨ 0 < x := by omega
set_option maxHeartbeats 4000000 in
theorem ref_step (a b c d : Int) (w : World) (ha : a ≤ 9223372036854775807) (hb : b ≤ 9223372036854775807) (hc : c ≤ 9223372036854775807) (hd : d ≤ 9223372036854775807)
    (IH : Hid (∀ (l q k p : Int) (W : World), l ≤ 9223372036854775807 → q ≤ 9223372036854775807 → k ≤ 9223372036854775807 → p ≤ 9223372036854775807 → 0 ≤ q → 0 ≤ p → q + p < mx0 b + mx0 d → Calls Try.prog 12 #[.agg #[.int .i64 l, .int .i64 q], .agg #[.int .i64 k, .int .i64 p]] W fun e w' => e = .returned (.int .i64 (cmpS l q k p)) ∧ Below W.heap.size W w')) :
    Calls Try.prog 12 #[.agg #[.int .i64 a, .int .i64 b], .agg #[.int .i64 c, .int .i64 d]] w fun e w' => e = .returned (.int .i64 (cmpS a b c d)) ∧ Below w.heap.size w w' := by
  rw [cmpS_mx a b c d]
  have k1 := hid (rplain_any a b)
  have k2 := hid (rplain_any c d)
  have n0 := mx0_pos a
  have n1 := mx0_bd a ha
  have k0 := mx0_pos b
  have k3 := mx0_bd b hb
  have m0 := mx0_pos c
  have m1 := mx0_bd c hc
  have l0 := mx0_pos d
  have l1 := mx0_bd d hd
  clear ha hb hc hd
  generalize mx0 a = n at *
  generalize mx0 b = k at *
  generalize mx0 c = m at *
  generalize mx0 d = l at *
  by_cases h0 : k = 0 ∨ l = 0
  · have hs := hid (loose n0 k0 m0 l0 h0)
    rcases (by omega : k = 0 ∨ (¬ k = 0 ∧ l = 0)) with rfl | ⟨h, rfl⟩
    all_goals
      clear h0
      go_enter Try.func12, Try.ntmps12
      go_wp2_with fail
      refine (k1.out _).mono ?_
      rintro _ w1 ⟨rfl, rfl⟩
      go_wp2_with fail
      refine (k2.out _).mono ?_
      rintro _ w1 ⟨rfl, rfl⟩
      go_wp2_with fail
      refine (loose_any _ _ _ _ _).mono ?_
      rintro _ w2 ⟨rfl, hb⟩
      have g := hid (below_step (B := w.heap.size) (w := w) (by go_grown) (by go_size) hb)
      clear hb
      go_wp2_with fail
      all_goals go_returns
      all_goals exact ⟨ret_i64 hs.out.symm, g.out⟩
  · have hk : 0 < k := by omega
    have hl : 0 < l := by omega
    have hk1 : 1 ≤ k := hk
    have hl1 : 1 ≤ l := hl
    have kz : (k == 0) = false := by simp; omega
    have lz : (l == 0) = false := by simp; omega
    clear h0
    by_cases q1 : m / l < n / k
    · have hs := hid (big_gt n0 hk m0 hl q1)
      have f1 : (n / k != m / l) = true := by simp; omega
      go_enter Try.func12, Try.ntmps12
      go_wp2_with fail
      refine (k1.out _).mono ?_
      rintro _ w1 ⟨rfl, rfl⟩
      go_wp2_with fail
      refine (k2.out _).mono ?_
      rintro _ w1 ⟨rfl, rfl⟩
      go_wp2_with fail
      all_goals go_returns
      all_goals exact ⟨ret_i64 hs.out.symm, by go_grown⟩
    · by_cases q2 : n / k < m / l
      · have hs := hid (big_lt n0 hk m0 hl q2)
        have f1 : (n / k != m / l) = true := by simp; omega
        go_enter Try.func12, Try.ntmps12
        go_wp2_with fail
        refine (k1.out _).mono ?_
        rintro _ w1 ⟨rfl, rfl⟩
        go_wp2_with fail
        refine (k2.out _).mono ?_
        rintro _ w1 ⟨rfl, rfl⟩
        go_wp2_with fail
        all_goals go_returns
        all_goals exact ⟨ret_i64 hs.out.symm, by go_grown⟩
      · have hq : n / k = m / l := by omega
        have f1 : (n / k != m / l) = false := by simp [hq]
        have p0 := Int.emod_nonneg n (show k ≠ 0 by omega)
        have r0 := Int.emod_nonneg m (show l ≠ 0 by omega)
        have HQ := hid hq
        clear hq q1 q2
        rcases even_or p0 with hp | hp
        · have fp : (n % k == 0) = true := by simp [hp]
          have fp2 : ¬ 0 < n % k := by omega
          rcases even_or r0 with hr | hr
          · have hs := hid (show cmpS n k m l = 0 by rw [rem_none n0 hk m0 hl HQ.out (.inl hp), if_neg (by omega), if_neg (by omega)])
            have fr2 : ¬ 0 < m % l := by omega
            clear hp hr
            go_enter Try.func12, Try.ntmps12
            go_wp2_with fail
            refine (k1.out _).mono ?_
            rintro _ w1 ⟨rfl, rfl⟩
            go_wp2_with fail
            refine (k2.out _).mono ?_
            rintro _ w1 ⟨rfl, rfl⟩
            go_wp2_with fail
            all_goals go_returns
            all_goals exact ⟨ret_i64 hs.out.symm, by go_grown⟩
          · have hs := hid (show cmpS n k m l = -1 by rw [rem_none n0 hk m0 hl HQ.out (.inl hp), if_neg (by omega), if_pos hr])
            clear hp
            go_enter Try.func12, Try.ntmps12
            go_wp2_with fail
            refine (k1.out _).mono ?_
            rintro _ w1 ⟨rfl, rfl⟩
            go_wp2_with fail
            refine (k2.out _).mono ?_
            rintro _ w1 ⟨rfl, rfl⟩
            go_wp2_with fail
            all_goals go_returns
            all_goals exact ⟨ret_i64 hs.out.symm, by go_grown⟩
        · have fp : (n % k == 0) = false := by simp; omega
          rcases even_or r0 with hr | hr
          · have hs := hid (show cmpS n k m l = 1 by rw [rem_none n0 hk m0 hl HQ.out (.inr hr), if_pos hp])
            have fr : (m % l == 0) = true := by simp [hr]
            clear hr
            go_enter Try.func12, Try.ntmps12
            go_wp2_with fail
            refine (k1.out _).mono ?_
            rintro _ w1 ⟨rfl, rfl⟩
            go_wp2_with fail
            refine (k2.out _).mono ?_
            rintro _ w1 ⟨rfl, rfl⟩
            go_wp2_with fail
            all_goals go_returns
            all_goals exact ⟨ret_i64 hs.out.symm, by go_grown⟩
          · have hs := hid (rem_turn n0 hk m0 hl HQ.out hp hr)
            have fr : (m % l == 0) = false := by simp; omega
            have b1 := Int.emod_lt_of_pos n hk
            have b2 := Int.emod_lt_of_pos m hl
            have IH' := hid (fun W => IH.out l (m % l) k (n % k) W l1 (by omega) k3 (by omega) r0 p0 (by omega))
            clear b1 b2 IH
            go_enter Try.func12, Try.ntmps12
            go_wp2_with fail
            refine (k1.out _).mono ?_
            rintro _ w1 ⟨rfl, rfl⟩
            go_wp2_with fail
            refine (k2.out _).mono ?_
            rintro _ w1 ⟨rfl, rfl⟩
            go_wp2_with fail
            refine (IH'.out _).mono ?_
            rintro _ w2 ⟨rfl, hb⟩
            have g := hid (below_step (B := w.heap.size) (w := w) (by go_grown) (by go_size) hb)
            clear hb
            go_wp2_with fail
            all_goals go_returns
            all_goals exact ⟨ret_i64 hs.out.symm, g.out⟩
theorem ref_any (N : Nat) : ∀ (a b c d : Int) (w : World), a ≤ 9223372036854775807 → b ≤ 9223372036854775807 → c ≤ 9223372036854775807 → d ≤ 9223372036854775807 → (mx0 b + mx0 d).toNat < N →
    Calls Try.prog 12 #[.agg #[.int .i64 a, .int .i64 b], .agg #[.int .i64 c, .int .i64 d]] w fun e w' => e = .returned (.int .i64 (cmpS a b c d)) ∧ Below w.heap.size w w' := by
  induction N with
  | zero => intro a b c d w _ _ _ _ h; omega
  | succ N ih =>
    intro a b c d w ha hb hc hd hN
    refine ref_step a b c d w ha hb hc hd (hid fun l q k p W h1 h2 h3 h4 h5 h6 h7 => ih l q k p W h1 h2 h3 h4 ?_)
    rw [mx0_id h5, mx0_id h6]
    omega
end Go.Proofs.Ytafcajojepigiaa
