/- share.Compare, called at any two shares, returns which is greater. Condition: none. -/
import Derived.Test.YtafcajojepigiaaPlain
import Derived.Test.YtafcajojepigiaaCmp
import Derived.Test.YtafcajojepigiaaShelf
import Derived.Deep.RegionWith
import Derived.Deep.DeepCutAuto
import Derived.Outline
namespace Go.Proofs.Ytafcajojepigiaa
open Go Go.RowKit
def cmpI (n d m c : Int) : Int := if n = m ∧ d = c then 0 else if n = 1 ∧ d = 0 then 1 else if m = 1 ∧ c = 0 then -1 else sgn (n * c) (m * d)
def cmpS (a b c d : Int) : Int := cmpI (pl a b).1 (pl a b).2 (pl c d).1 (pl c d).2
theorem blkD {w : World} {o c : Obj} {k : Nat} (h : w.heap[k]? = some c) : (w.alloc o).drew.heap[k]? = some c := (Below.heap_alloc _ _ _ (lt_of h)).trans h
def hi (x y : Int) : Int := x * y / 18446744073709551616
def lo (x y : Int) : Int := x * y % 18446744073709551616
theorem cast_div (k : Nat) : ((k / 18446744073709551616 : Nat) : Int) = (k : Int) / 18446744073709551616 := by omega
theorem cast_mod (k : Nat) : ((k % 18446744073709551616 : Nat) : Int) = (k : Int) % 18446744073709551616 := by omega
theorem mul_any (x y : Int) (w : World) (hx0 : 0 ≤ x) (hx : x ≤ 9223372036854775807) (hy0 : 0 ≤ y) (hy : y ≤ 9223372036854775807) :
    Calls Try.prog 23 #[.int .u64 x, .int .u64 y] w fun e w' => e = .returned (.tuple #[.int .u64 (hi x y), .int .u64 (lo x y)]) ∧ w = w' := by
  obtain ⟨n, rfl⟩ := Int.eq_ofNat_of_zero_le hx0
  obtain ⟨m, rfl⟩ := Int.eq_ofNat_of_zero_le hy0
  refine (Go.Proofs.Try.bits_Mul64 n m (by omega) (by omega) w).mono fun e w' ⟨h, h'⟩ => ⟨?_, h'.symm⟩
  rw [h, cast_div, cast_mod, Int.natCast_mul]
  rfl
theorem or_sgn (x y : Int) : orI (sgn (x / 18446744073709551616) (y / 18446744073709551616)) (sgn (x % 18446744073709551616) (y % 18446744073709551616)) = sgn x y := by
  unfold orI sgn
  repeat' split
  all_goals omega
set_option maxHeartbeats 2000000 in
theorem compare_core (a b c d : Int) (P1 P2 Q1 Q2 : Int) (w : World) (hp1 : 0 ≤ P1 ∧ P1 ≤ 9223372036854775807) (hp2 : 0 ≤ P2 ∧ P2 ≤ 9223372036854775807) (hq1 : 0 ≤ Q1 ∧ Q1 ≤ 9223372036854775807) (hq2 : 0 ≤ Q2 ∧ Q2 ≤ 9223372036854775807)
    (K1 : Hid (∀ W, Calls Try.prog 21 #[.agg #[.int .i64 a, .int .i64 b]] W fun e w' => e = .returned (.agg #[.int .i64 P1, .int .i64 P2]) ∧ Below W.heap.size W w'))
    (K2 : Hid (∀ W, Calls Try.prog 21 #[.agg #[.int .i64 c, .int .i64 d]] W fun e w' => e = .returned (.agg #[.int .i64 Q1, .int .i64 Q2]) ∧ Below W.heap.size W w')) :
    Calls Try.prog 11 #[.agg #[.int .i64 a, .int .i64 b], .agg #[.int .i64 c, .int .i64 d]] w fun e w' => e = .returned (.int .i64 (cmpI P1 P2 Q1 Q2)) ∧ Below w.heap.size w w' := by
  have hA0 := hid (show ((w.alloc (.cells #[.int .i64 a, .int .i64 b] 23)).alloc (.cells #[.int .i64 c, .int .i64 d] 23)).heap[w.heap.size]? = some (.cells #[.int .i64 a, .int .i64 b] 23) from (Below.heap_alloc _ _ _ (by simp)).trans (heap_new w _))
  have hB0 := hid (show ((w.alloc (.cells #[.int .i64 a, .int .i64 b] 23)).alloc (.cells #[.int .i64 c, .int .i64 d] 23)).heap[w.heap.size + 1]? = some (.cells #[.int .i64 c, .int .i64 d] 23) from by simpa using heap_new (w.alloc (.cells #[.int .i64 a, .int .i64 b] 23)) (.cells #[.int .i64 c, .int .i64 d] 23))
  have hG0 := hid (show Below w.heap.size w ((w.alloc (.cells #[.int .i64 a, .int .i64 b] 23)).alloc (.cells #[.int .i64 c, .int .i64 d] 23)) from by go_grown)
  go_enter Try.func11, Try.ntmps11
  go_upto_region 1 with fail
  go_cut [] (fun wx => Below w.heap.size w wx ∧ wx.heap[w.heap.size]? = some (.cells #[.int .i64 P1, .int .i64 P2] 23 (0, 0)) ∧ wx.heap[w.heap.size + 1]? = some (.cells #[.int .i64 Q1, .int .i64 Q2] 23 (0, 0)))
  case first =>
    go_region_with (first | (go_at_call_of 21 (Value.agg #[.int .i64 a, .int .i64 b]); refine (K1.out _).mono ?_; rintro e w2 ⟨rfl, hb⟩; have A2 := keep0 (unD hb) hA0.out; have B2 := keep0 (unD hb) hB0.out; have zA2 := lt_of A2; have zB2 := lt_of B2; obtain ⟨cA20, cA21⟩ := two A2; obtain ⟨cB20, cB21⟩ := two B2; have HA2 := hid A2; have HB2 := hid B2; have HG2 := hid (below_step hG0.out (by go_size) (unD hb)); clear hb A2 B2) | (go_at_call_of 21 (Value.agg #[.int .i64 c, .int .i64 d]); refine (K2.out _).mono ?_; rintro e w3 ⟨rfl, hb⟩; have A3 := keep0 hb HA2.out; have B3 := keep0 hb HB2.out; have zA3 := lt_of A3; have zB3 := lt_of B3; obtain ⟨cA30, cA31⟩ := two A3; obtain ⟨cB30, cB31⟩ := two B3; obtain ⟨fA30, fA31⟩ := twoF A3; obtain ⟨fB30, fB31⟩ := twoF B3; have HA3 := hid A3; have HB3 := hid B3; have HG3 := hid (below_step HG2.out HG2.out.size hb); clear hb A3 B3 cA20 cA21 cB20 cB21))
    all_goals
      go_wp2_with fail
      go_meet
      refine ⟨?_, ?_, ?_⟩
      · first | (with_reducible exact two_below _ _ (two_below _ _ HG3.out (Nat.le_refl _)) (Nat.le_succ _)) | (with_reducible exact two_below _ _ (two_below _ _ HG3.out (Nat.le_succ _)) (Nat.le_refl _))
      · first | (with_reducible exact (two_other _ _ (Nat.ne_of_lt (Nat.lt_succ_self _))).trans (two_set _ _ HA3.out)) | (with_reducible exact two_set _ _ ((two_other _ _ (Nat.ne_of_lt (Nat.lt_succ_self _))).trans HA3.out))
      · first | (with_reducible exact two_set _ _ ((two_other _ _ (Nat.ne_of_gt (Nat.lt_succ_self _))).trans HB3.out)) | (with_reducible exact (two_other _ _ (Nat.ne_of_gt (Nat.lt_succ_self _))).trans (two_set _ _ HB3.out))
  case rest =>
    obtain ⟨hg, hA, hB⟩ := hcut
    obtain ⟨cA0, cA1⟩ := two hA
    obtain ⟨cB0, cB1⟩ := two hB
    have zA := lt_of hA
    have zB := lt_of hB
    have HG := hid hg
    have HA := hid hA
    have HB := hid hB
    clear hg hA hB hA0 hB0 hG0 K1 K2
    by_cases e1 : P1 = Q1 ∧ P2 = Q2
    · have EC := hid (show cmpI P1 P2 Q1 Q2 = 0 by rw [cmpI, if_pos e1])
      obtain ⟨rfl, rfl⟩ := e1
      go_wp2_with fail
      all_goals go_returns
      all_goals exact ⟨ret_i64 EC.out.symm, HG.out⟩
    · by_cases e2 : P1 = 1 ∧ P2 = 0
      · have EC := hid (show cmpI P1 P2 Q1 Q2 = 1 by rw [cmpI, if_neg e1, if_pos e2])
        obtain ⟨rfl, rfl⟩ := e2
        have e1' : (¬ Q1 = 1 ∧ ¬ (1 : Int) = Q1) ∨ (Q1 = 1 ∧ ¬ Q2 = 0 ∧ ¬ (0 : Int) = Q2) := by omega
        clear e1
        rcases e1' with ⟨h, h'⟩ | ⟨rfl, h, h'⟩
        all_goals
          go_wp2_with fail
          go_region_with (go_at_call 22; refine (unbound_any _).mono ?_; rintro e w' ⟨rfl, rfl⟩)
          all_goals
            go_wp2_with fail
            all_goals go_returns
            all_goals exact ⟨ret_i64 EC.out.symm, by have := HG.out; have := HG.out.size; go_grown⟩
      · by_cases e3 : Q1 = 1 ∧ Q2 = 0
        · have EC := hid (show cmpI P1 P2 Q1 Q2 = -1 by rw [cmpI, if_neg e1, if_neg e2, if_pos e3])
          obtain ⟨rfl, rfl⟩ := e3
          have e1' : (¬ P1 = 1 ∧ ¬ (1 : Int) = P1) ∨ (P1 = 1 ∧ ¬ P2 = 0 ∧ ¬ (0 : Int) = P2) := by omega
          clear e1 e2
          rcases e1' with ⟨h, h'⟩ | ⟨rfl, h, h'⟩
          all_goals
            go_wp2_with fail
            go_region_with (go_at_call 22; refine (unbound_any _).mono ?_; rintro e w' ⟨rfl, rfl⟩)
            all_goals
              go_wp2_with fail
              go_region_with (go_at_call 22; refine (unbound_any _).mono ?_; rintro e w' ⟨rfl, rfl⟩)
              all_goals
                go_wp2_with fail
                all_goals go_returns
                all_goals exact ⟨ret_i64 EC.out.symm, by have := HG.out; have := HG.out.size; go_grown⟩
        · have EC := hid (show cmpI P1 P2 Q1 Q2 = orI (sgn (hi P1 Q2) (hi Q1 P2)) (sgn (lo P1 Q2) (lo Q1 P2)) by rw [cmpI, if_neg e1, if_neg e2, if_neg e3]; exact (or_sgn _ _).symm)
          have HE1 := hid e1
          have HE2 := hid e2
          have HE3 := hid e3
          clear e1 e2 e3
          go_upto_region 2 with fail
          go_cut [13] (fun v wx => v = .bool false ∧ Below w.heap.size w wx ∧ wx.heap[w.heap.size]? = some (.cells #[.int .i64 P1, .int .i64 P2] 23 (0, 0)) ∧ wx.heap[w.heap.size + 1]? = some (.cells #[.int .i64 Q1, .int .i64 Q2] 23 (0, 0)))
          case first =>
            have e1' : (¬ P1 = Q1 ∧ ¬ Q1 = P1) ∨ (P1 = Q1 ∧ ¬ P2 = Q2 ∧ ¬ Q2 = P2) := by have := HE1.out; omega
            rcases e1' with ⟨h, h'⟩ | ⟨rfl, h, h'⟩
            all_goals
              go_wp2_with fail
              go_meet
              exact ⟨rfl, HG.out, HA.out, HB.out⟩
          case rest =>
            clear HG HA HB cA0 cA1 cB0 cB1 zA zB
            obtain ⟨rfl, hg, hA, hB⟩ := hcut
            obtain ⟨cA0, cA1⟩ := two hA
            obtain ⟨cB0, cB1⟩ := two hB
            have zA := lt_of hA
            have zB := lt_of hB
            have HG := hid hg
            have HA := hid hA
            have HB := hid hB
            clear hg hA hB
            go_upto_region 4 with fail
            go_cut [17] (fun v wx => v = .bool false ∧ Below w.heap.size w wx ∧ wx.heap[w.heap.size]? = some (.cells #[.int .i64 P1, .int .i64 P2] 23 (0, 0)) ∧ wx.heap[w.heap.size + 1]? = some (.cells #[.int .i64 Q1, .int .i64 Q2] 23 (0, 0)))
            case first =>
              have e1' : (¬ P1 = 1 ∧ ¬ 1 = P1) ∨ (P1 = 1 ∧ ¬ P2 = 0 ∧ ¬ 0 = P2) := by have := HE2.out; omega
              rcases e1' with ⟨h, h'⟩ | ⟨rfl, h, h'⟩
              all_goals
                go_region_with (go_at_call 22; refine (unbound_any _).mono ?_; rintro e w' ⟨rfl, rfl⟩)
                all_goals
                  go_wp2_with fail
                  go_meet
                  first | (with_reducible exact ⟨rfl, HG.out.alloc HG.out.size _, (Below.heap_alloc _ _ _ zA).trans HA.out, (Below.heap_alloc _ _ _ zB).trans HB.out⟩) | (with_reducible exact ⟨rfl, (HG.out.alloc HG.out.size _).drew, blkD HA.out, blkD HB.out⟩)
            case rest =>
              clear HG HA HB cA0 cA1 cB0 cB1 zA zB
              obtain ⟨rfl, hg, hA, hB⟩ := hcut
              obtain ⟨cA0, cA1⟩ := two hA
              obtain ⟨cB0, cB1⟩ := two hB
              have zA := lt_of hA
              have zB := lt_of hB
              have HG := hid hg
              have HA := hid hA
              have HB := hid hB
              clear hg hA hB
              go_upto_region 6 with fail
              go_cut [21] (fun v wx => v = .bool false ∧ Below w.heap.size w wx ∧ wx.heap[w.heap.size]? = some (.cells #[.int .i64 P1, .int .i64 P2] 23 (0, 0)) ∧ wx.heap[w.heap.size + 1]? = some (.cells #[.int .i64 Q1, .int .i64 Q2] 23 (0, 0)))
              case first =>
                have e1' : (¬ Q1 = 1 ∧ ¬ 1 = Q1) ∨ (Q1 = 1 ∧ ¬ Q2 = 0 ∧ ¬ 0 = Q2) := by have := HE3.out; omega
                rcases e1' with ⟨h, h'⟩ | ⟨rfl, h, h'⟩
                all_goals
                  go_region_with (go_at_call 22; refine (unbound_any _).mono ?_; rintro e w' ⟨rfl, rfl⟩)
                  all_goals
                    go_wp2_with fail
                    go_meet
                    first | (with_reducible exact ⟨rfl, HG.out.alloc HG.out.size _, (Below.heap_alloc _ _ _ zA).trans HA.out, (Below.heap_alloc _ _ _ zB).trans HB.out⟩) | (with_reducible exact ⟨rfl, (HG.out.alloc HG.out.size _).drew, blkD HA.out, blkD HB.out⟩)
              case rest =>
                clear HG HA HB cA0 cA1 cB0 cB1 zA zB HE1 HE2 HE3
                obtain ⟨rfl, hg, hA, hB⟩ := hcut
                obtain ⟨cA0, cA1⟩ := two hA
                obtain ⟨cB0, cB1⟩ := two hB
                have zA := lt_of hA
                have zB := lt_of hB
                have HG := hid hg
                have HA := hid hA
                have HB := hid hB
                clear hg hA hB
                obtain ⟨hp10, hp11⟩ := hp1
                obtain ⟨hp20, hp21⟩ := hp2
                obtain ⟨hq10, hq11⟩ := hq1
                obtain ⟨hq20, hq21⟩ := hq2
                go_wp2_with (first | (go_at_call 23; refine (mul_any _ _ _ (by omega) (by omega) (by omega) (by omega)).mono ?_; rintro e w' ⟨rfl, rfl⟩) | (go_at_call 25; refine (sgn_any _ _ _).mono ?_; rintro e w' ⟨rfl, rfl⟩) | (go_at_call 24; refine (or_any _ _ _ _ (by exact cell_of (heap_new _ _) 0) (by exact cell_of (heap_new _ _) 1)).mono ?_; rintro e w' ⟨rfl, rfl⟩))
                all_goals go_returns
                all_goals exact ⟨ret_i64 EC.out.symm, by have := HG.out; have := HG.out.size; go_grown⟩
end Go.Proofs.Ytafcajojepigiaa
