/- The reference's Lowest, called at any share: its lowest terms. Conditions: numbers of 64 bits. -/
import Derived.Test.YtafcajojepigiaaLowMath
import Derived.Test.YtafcajojepigiaaLow
import Derived.Test.YtafcajojepigiaaRef
import Derived.Deep.RegionWith
import Derived.Deep.DeepCutAuto
import Derived.BigQuiet
namespace Go.Proofs.Ytafcajojepigiaa
open Go Go.RowKit
theorem rplain_bel (n d : Int) (w : World) : Calls Try.prog 26 #[.agg #[.int .i64 n, .int .i64 d]] w fun e w' => e = .returned (.agg #[.int .i64 (mx0 n), .int .i64 (mx0 d)]) ∧ Below w.heap.size w w' := by
  refine (rplain_any n d w).mono ?_
  rintro _ w' ⟨rfl, rfl⟩
  exact ⟨rfl, by go_grown⟩
/-- The three ends of the lowest terms, as the reference parts them. -/
theorem rlow_three {n d : Int} (hn : n ≤ 9223372036854775807) (hd : d ≤ 9223372036854775807) : (mx0 n = 0 ∧ lowF n d = (0, 1)) ∨ (0 < mx0 n ∧ mx0 d = 0 ∧ lowF n d = (1, 0)) ∨ ∃ p q g : Nat, 0 < p ∧ 0 < q ∧ mx0 n = p ∧ mx0 d = q ∧ lowF n d = (((p / g : Nat) : Int), ((q / g : Nat) : Int)) ∧ Nat.gcd p q = g ∧ 0 < g ∧ p ≤ 9223372036854775807 ∧ q ≤ 9223372036854775807 := by
  by_cases h1 : n ≤ 0
  · have e : pl n d = (0, 1) := by rw [pl, if_pos h1]
    exact .inl ⟨by unfold mx0; split <;> omega, by simp [lowF, gcS, e]⟩
  · by_cases h2 : d ≤ 0
    · have e : pl n d = (1, 0) := by rw [pl, if_neg h1, if_pos h2]
      exact .inr (.inl ⟨by unfold mx0; split <;> omega, by unfold mx0; split <;> omega, by simp [lowF, gcS, e]⟩)
    · have e : pl n d = (n, d) := by rw [pl, if_neg h1, if_neg h2]
      obtain ⟨p, rfl⟩ := Int.eq_ofNat_of_zero_le (show 0 ≤ n by omega)
      obtain ⟨q, rfl⟩ := Int.eq_ofNat_of_zero_le (show 0 ≤ d by omega)
      have hp : 0 < p := by omega
      exact .inr (.inr ⟨p, q, Nat.gcd p q, hp, by omega, mx0_id (by omega), mx0_id (by omega), by simp only [lowF, gcS, e, Int.toNat_natCast], rfl, Nat.gcd_pos_of_pos_left _ hp, by omega, by omega⟩)
set_option maxHeartbeats 2000000 in
theorem rlow_any (n d : Int) (w : World) (hn : n ≤ 9223372036854775807) (hd : d ≤ 9223372036854775807) :
    Calls Try.prog 16 #[.agg #[.int .i64 n, .int .i64 d]] w fun e w' => e = .returned (.agg #[.int .i64 (lowF n d).1, .int .i64 (lowF n d).2]) ∧ Below w.heap.size w w' := by
  have KP := hid (fun W => rplain_bel n d W)
  have hT := rlow_three hn hd
  clear hn hd
  generalize lowF n d = L at *
  generalize mx0 n = P at *
  generalize mx0 d = Q at *
  have A0 := hid (show ((w.alloc (.cells #[.int .i64 n, .int .i64 d] 23)).alloc (.cells #[.int .i64 0, .int .i64 0] 23)).heap[w.heap.size]? = some (.cells #[.int .i64 n, .int .i64 d] 23) from (Below.heap_alloc _ _ _ (by simp)).trans (heap_new w _))
  have B0 := hid (show ((w.alloc (.cells #[.int .i64 n, .int .i64 d] 23)).alloc (.cells #[.int .i64 0, .int .i64 0] 23)).heap[w.heap.size + 1]? = some (.cells #[.int .i64 0, .int .i64 0] 23) from by simpa using heap_new (w.alloc (.cells #[.int .i64 n, .int .i64 d] 23)) (.cells #[.int .i64 0, .int .i64 0] 23))
  have G0 := hid (show Below w.heap.size w ((w.alloc (.cells #[.int .i64 n, .int .i64 d] 23)).alloc (.cells #[.int .i64 0, .int .i64 0] 23)) from by go_grown)
  go_enter Try.func16, Try.ntmps16
  go_upto_region 1 with fail
  go_cut [] (fun wx => Below w.heap.size w wx ∧ wx.heap[w.heap.size]? = some (.cells #[.int .i64 P, .int .i64 Q] 23 (0, 0)) ∧ wx.heap[w.heap.size + 1]? = some (.cells #[.int .i64 0, .int .i64 0] 23 (0, 0)))
  case first =>
    go_wp2_with fail
    refine (KP.out _).mono ?_
    rintro _ w1 ⟨rfl, hb⟩
    have A1 := hid (keep0 hb A0.out)
    have B1 := hid (keep0 hb B0.out)
    have G1 := hid (below_step G0.out G0.out.size hb)
    obtain ⟨f0, f1⟩ := twoF A1.out
    obtain ⟨c0, c1⟩ := two A1.out
    clear hb
    go_wp2_with fail
    go_meet
    exact ⟨two_below _ _ G1.out (Nat.le_refl _), two_set _ _ A1.out, (two_other _ _ (Nat.ne_of_gt (Nat.lt_succ_self _))).trans B1.out⟩
  case rest =>
    clear A0 B0 G0 KP
    obtain ⟨hgx, hA, hB⟩ := hcut
    obtain ⟨cA0, cA1⟩ := two hA
    have HG := hid hgx
    have HA := hid hA
    have HB := hid hB
    clear hgx hA hB
    obtain ⟨cB0, cB1⟩ := two HB.out
    obtain ⟨fB0, fB1⟩ := twoF HB.out
    rcases hT with ⟨rfl, rfl⟩ | ⟨hP, rfl, rfl⟩ | ⟨p, q, g, hp0, hq0, rfl, rfl, rfl, hg, hg0, hp, hq⟩
    · go_wp2_with fail
      all_goals exact bodyPost_ret (v := .agg #[.int .i64 0, .int .i64 1]) (results_cell_row Try.results16 _ _ (w.heap.size + 1) 23 _ (0, 0) _ rfl (two_set _ _ HB.out) Try.underlying23 rfl (by kernel_rfl)) rfl ⟨rfl, two_below _ _ HG.out (Nat.le_succ _)⟩
    · have z1 : (P == 0) = false := by simp; omega
      have z2 : ¬ P = 0 := by omega
      go_wp2_with fail
      all_goals exact bodyPost_ret (v := .agg #[.int .i64 1, .int .i64 0]) (results_cell_row Try.results16 _ _ (w.heap.size + 1) 23 _ (0, 0) _ rfl (two_set _ _ HB.out) Try.underlying23 rfl (by kernel_rfl)) rfl ⟨rfl, two_below _ _ HG.out (Nat.le_succ _)⟩
    · have z1 : ((p : Int) == 0) = false := by simp; omega
      have z2 : ((q : Int) == 0) = false := by simp; omega
      have z3 : ¬ (p : Int) = 0 := by omega
      have z4 : ¬ (q : Int) = 0 := by omega
      go_wp2_with fail
      go_loopw [3, 4] (fun a b wr => ∃ x y : Nat, Nat.gcd x y = g ∧ x ≤ 9223372036854775807 ∧ y ≤ 9223372036854775807 ∧ a = .int .i64 x ∧ b = .int .i64 y ∧ Below w.heap.size w wr ∧ wr.heap[w.heap.size]? = some (.cells #[.int .i64 p, .int .i64 q] 23 (0, 0)) ∧ wr.heap[w.heap.size + 1]? = some (.cells #[.int .i64 0, .int .i64 0] 23 (0, 0))) (fun _ b _ => (intOf b).toNat)
      case atStart => exact ⟨p, q, hg, hp, hq, rfl, rfl, HG.out, HA.out, HB.out⟩
      case round =>
        obtain ⟨x, y, hxy, hx, hy, rfl, rfl, hgx, hA, hB⟩ := hrel
        obtain ⟨dA0, dA1⟩ := two hA
        obtain ⟨dB0, dB1⟩ := two hB
        obtain ⟨fB0, fB1⟩ := twoF hB
        have HG2 := hid hgx
        have HA2 := hid hA
        have HB2 := hid hB
        clear hgx hA hB
        by_cases h0 : y = 0
        · have hxg := hid (gcd_end hxy h0)
          subst h0
          have hx0 : 0 < x := by rw [hxg.out]; exact hg0
          have nz : ((x : Int) == 0) = false := by simp; omega
          have xz : ¬ (x : Int) = 0 := by omega
          have x1 : (1 : Int) ≤ (x : Int) := by omega
          have W1 : ∀ m : Nat, m ≤ 9223372036854775807 → wrap64 ((m : Int) / (x : Int)) = ((m / g : Nat) : Int) := fun m hm => by
            have e : ((m : Int) / (x : Int)) = ((m / x : Nat) : Int) := rfl
            have l := Nat.div_le_self m x
            have l2 : -9223372036854775808 ≤ ((m / x : Nat) : Int) ∧ ((m / x : Nat) : Int) ≤ 9223372036854775807 := by generalize m / x = k at l; omega
            rw [e, wr_in _ l2, hxg.out]
          have ep := hid (W1 p hp)
          have eq := hid (W1 q hq)
          clear W1
          go_wp2_with fail
          go_region
          all_goals
            go_wp2_with fail
            exact bodyPost_ret (v := .agg #[.int .i64 (wrap64 ((p : Int) / (x : Int))), .int .i64 (wrap64 ((q : Int) / (x : Int)))]) (results_cell_row Try.results16 _ _ (w.heap.size + 1) 23 _ (0, 0) _ rfl (two_set _ _ HB2.out) Try.underlying23 rfl (by kernel_rfl)) rfl ⟨by rw [ep.out, eq.out]; rfl, (two_below _ _ HG2.out (Nat.le_succ _)).drew⟩
        · have hs := hid (gcd_step x y)
          have yp : 0 < (y : Int) := by omega
          have nz2 : ((y : Int) == 0) = false := by simp; omega
          have yz : ¬ (y : Int) = 0 := by omega
          go_wp2_with fail
          go_region
          all_goals
            go_wp2_with fail
            go_roundw
            case rel => exact ⟨y, x % y, by rw [hs.out, hxy], hy, by have := Nat.mod_lt x (Nat.pos_of_ne_zero h0); omega, rfl, rfl, HG2.out.drew, HA2.out, HB2.out⟩
            case measure =>
              have e : ((x : Int) % (y : Int)) = ((x % y : Nat) : Int) := rfl
              have l := Nat.mod_lt x (Nat.pos_of_ne_zero h0)
              simp only [intOf]
              rw [e]
              omega
end Go.Proofs.Ytafcajojepigiaa
