/- share.Least, called at any row of shares: the place of the first least one. Condition: the row stands in memory. -/
import Derived.Test.YtafcajojepigiaaMath
import Derived.Test.YtafcajojepigiaaPart
import Derived.Deep.RegionWith
import Derived.Deep.QuietTactic
import Derived.BigQuiet
namespace Go.Proofs.Ytafcajojepigiaa
open Go Go.RowKit
def leF (S : Nat → Int × Int) : Nat → Int
  | 0 => -1
  | k + 1 => if leF S k < 0 then k else if cmpS (S k).1 (S k).2 (S (leF S k).toNat).1 (S (leF S k).toNat).2 < 0 then k else leF S k
theorem leF_rng (S : Nat → Int × Int) (k : Nat) : (k = 0 ∧ leF S k = -1) ∨ (0 ≤ leF S k ∧ leF S k < k) := by
  induction k with
  | zero => exact .inl ⟨rfl, rfl⟩
  | succ k ih =>
    refine .inr ?_
    unfold leF
    split
    · omega
    · split
      · omega
      · omega
theorem below_quiet {B : Nat} {a w : World} (h : Below B a w) (n : Nat) : Below B a (w.drewN n) := ⟨h.os, h.tape, h.output, h.size, h.block⟩
/-- The row of shares: two cells each. -/
def Shares (w : World) (b off n : Nat) (S : Nat → Int × Int) : Prop := ∀ i, i < n → w.cell? ⟨b, off + i * 2, none⟩ = some (.int .i64 (S i).1) ∧ w.cell? ⟨b, off + i * 2 + 1, none⟩ = some (.int .i64 (S i).2)
set_option maxHeartbeats 2000000 in
theorem least_any (S : Nat → Int × Int) (b off n cap : Nat) (w : World) (hn : n ≤ 9223372036854775807) (hb : b < w.heap.size) (hS : Shares w b off n S) (hm : ∀ i, i < n → (S i).1 ≤ 9223372036854775807 ∧ (S i).2 ≤ 9223372036854775807)
    (KC : Hid (∀ a b c d W, a ≤ 9223372036854775807 → b ≤ 9223372036854775807 → c ≤ 9223372036854775807 → d ≤ 9223372036854775807 → Calls Try.prog 11 #[.agg #[.int .i64 a, .int .i64 b], .agg #[.int .i64 c, .int .i64 d]] W fun e w' => e = .returned (.int .i64 (cmpS a b c d)) ∧ Below W.heap.size W w')) :
    Calls Try.prog 20 #[.slice (some ⟨b, off, none⟩) n cap] w fun e w' => e = .returned (.int .i64 (leF S n)) ∧ Below w.heap.size w w' := by
  have HS := hid hS
  have HM := hid hm
  clear hS hm
  go_enter Try.func20, Try.ntmps20
  go_wp2_with fail
  go_loopw [3, 8] (fun v i wr => ∃ k : Nat, k ≤ n ∧ i = .int .i64 k ∧ v = .int .i64 (leF S k) ∧ Below w.heap.size w wr) (fun _ i _ => n - (intOf i).toNat)
  case atStart => exact ⟨0, by omega, rfl, rfl, by go_grown⟩
  case round =>
    obtain ⟨k, hk, rfl, rfl, hg⟩ := hrel
    have hr := leF_rng S k
    by_cases hlt : k < n
    · obtain ⟨c0, c1⟩ := HS.out k hlt
      have d0 : wr.cell? ⟨b, off + k * 2, none⟩ = some (.int .i64 (S k).1) := by rw [hg.cell (p := ⟨b, off + k * 2, none⟩) hb]; exact c0
      have d1 : wr.cell? ⟨b, off + k * 2 + 1, none⟩ = some (.int .i64 (S k).2) := by rw [hg.cell (p := ⟨b, off + k * 2 + 1, none⟩) hb]; exact c1
      have HG := hid hg
      clear c0 c1 hg
      rcases hr with ⟨rfl, hv⟩ | ⟨hv0, hv1⟩
      · have hs := hid (show leF S (0 + 1) = 0 by simp [leF])
        rw [hv]
        clear hv
        rw [Nat.zero_mul, Nat.add_zero] at d0 d1
        go_wp2_with fail
        go_quiet (fail)
        go_wp2_with fail
        go_roundw
        case rel => exact ⟨0 + 1, by omega, by go_num, by rw [hs.out]; rfl, below_quiet (HG.out.alloc HG.out.size _) _⟩
        case measure => simp [intOf]; omega
      · have hs := hid (show leF S (k + 1) = if leF S k < 0 then (k : Int) else if cmpS (S k).1 (S k).2 (S (leF S k).toNat).1 (S (leF S k).toNat).2 < 0 then (k : Int) else leF S k from rfl)
        generalize leF S k = v at *
        obtain ⟨j, rfl⟩ := Int.eq_ofNat_of_zero_le hv0
        have hj : j < n := by omega
        have hs2 := hid (show leF S (k + 1) = if cmpS (S k).1 (S k).2 (S j).1 (S j).2 < 0 then (k : Int) else j by rw [hs.out, if_neg (by omega), Int.toNat_natCast])
        have g0 : decide ((j : Int) < 0) = false := by simp
        have g1 : (j : Int) < (n : Int) := by omega
        obtain ⟨c0, c1⟩ := HS.out j hj
        have x0 : wr.cell? ⟨b, off + j * 2, none⟩ = some (.int .i64 (S j).1) := by rw [HG.out.cell (p := ⟨b, off + j * 2, none⟩) hb]; exact c0
        have x1 : wr.cell? ⟨b, off + j * 2 + 1, none⟩ = some (.int .i64 (S j).2) := by rw [HG.out.cell (p := ⟨b, off + j * 2 + 1, none⟩) hb]; exact c1
        have zb : b < wr.heap.size := Nat.lt_of_lt_of_le hb HG.out.size
        obtain ⟨m0, m1⟩ := HM.out k hlt
        obtain ⟨m2, m3⟩ := HM.out j hj
        have M := hid (And.intro m0 (And.intro m1 (And.intro m2 m3)))
        clear c0 c1 hs m0 m1 m2 m3
        generalize (S k).1 = a0 at *
        generalize (S k).2 = a1 at *
        generalize (S j).1 = b0 at *
        generalize (S j).2 = b1 at *
        go_wp2_with fail
        go_region_with (go_at_call 11; refine (KC.out _ _ _ _ _ M.out.1 M.out.2.1 M.out.2.2.1 M.out.2.2.2).mono ?_; rintro e w4 ⟨rfl, hbb⟩; have hg4 := hid (below_step (HG.out.alloc HG.out.size _) (by have := HG.out.size; go_size) (unD hbb)); clear hbb)
        all_goals
          generalize cmpS a0 a1 b0 b1 = c at *
          by_cases hc : c < 0
          · have hs3 := hid (show leF S (k + 1) = k by rw [hs2.out, if_pos hc])
            go_wp2_with fail
            go_roundw
            case rel => exact ⟨k + 1, by omega, by go_num, by rw [hs3.out], hg4.out⟩
            case measure => simp [intOf]; omega
          · have hs3 := hid (show leF S (k + 1) = j by rw [hs2.out, if_neg hc])
            go_wp2_with fail
            go_roundw
            case rel => exact ⟨k + 1, by omega, by go_num, by rw [hs3.out], hg4.out⟩
            case measure => simp [intOf]; omega
    · obtain rfl : k = n := by omega
      go_wp2_with fail
      all_goals go_returns
      all_goals exact ⟨rfl, hg⟩
end Go.Proofs.Ytafcajojepigiaa
