/- The reference's Same, called at one row twice: true. Conditions: both stand in memory, at most 10^7 numbers. -/
import Derived.Test.YtanjgobcfgmpfaaRInts
import Derived.Deep.QuietTactic
import Derived.BigQuiet
namespace Go.Proofs.Ytanjgobcfgmpfaa
open Go Go.RowKit
theorem quiet_below {B : Nat} {a w : World} (h : Below B a w) (n : Nat) : Below B a (w.drewN n) := ⟨h.os, h.tape, h.output, h.size, h.block⟩
set_option maxHeartbeats 2000000 in
theorem same_any (A C : Option Addr) (cap cap2 : Nat) (zs : List Int) (w : World) (ha : Its w A zs) (hc : Its w C zs) (hlen : zs.length ≤ 10000000) :
    Calls Try.prog 25 #[.slice A zs.length cap, .slice C zs.length cap2] w fun e w' => e = .returned (.bool true) ∧ Below w.heap.size w w' := by
  have h1 : (zs.length : Int) ≤ 10000000 := by omega
  have HA := hid ha
  have HC := hid hc
  clear ha hc
  go_enter Try.func25, Try.ntmps25
  go_wp2_with fail
  go_loopw [5] (fun i wr => ∃ k : Nat, k ≤ zs.length ∧ i = .int .i64 k ∧ Below w.heap.size w wr) (fun i _ => zs.length - (intOf i).toNat)
  case atStart => exact ⟨0, Nat.zero_le _, rfl, Below.refl _ _⟩
  case round =>
    obtain ⟨k, hk, rfl, hg⟩ := hrel
    have HG := hid hg
    clear hg
    by_cases hlt : k < zs.length
    · have hlt' : (k : Int) < (zs.length : Int) := by omega
      rcases HA.out with rfl | ⟨b, off, rfl, hb, hx⟩
      · simp at hlt
      · rcases HC.out with rfl | ⟨b2, off2, rfl, hb2, hx2⟩
        · simp at hlt
        · have x1 : wr.cell? ⟨b, off + k, none⟩ = some (.int .i64 zs[k]) := by
            rw [HG.out.cell (p := ⟨b, off + k, none⟩) hb]
            exact hx k zs[k] (List.getElem?_eq_getElem hlt)
          have x2 : wr.cell? ⟨b2, off2 + k, none⟩ = some (.int .i64 zs[k]) := by
            rw [HG.out.cell (p := ⟨b2, off2 + k, none⟩) hb2]
            exact hx2 k zs[k] (List.getElem?_eq_getElem hlt)
          generalize zs[k] = z at *
          clear hx hx2
          go_wp2_with fail
          go_quiet (fail)
          go_wp2_with fail
          go_roundw
          case rel => exact ⟨k + 1, by omega, by go_num, quiet_below HG.out _⟩
          case measure => simp [intOf]; omega
    · obtain rfl : k = zs.length := by omega
      go_wp2_with fail
      all_goals go_returns
      all_goals exact ⟨rfl, HG.out⟩
end Go.Proofs.Ytanjgobcfgmpfaa
