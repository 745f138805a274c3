/- The reference's In and Same. Conditions: the numbers stand in memory. -/
import Derived.Test.YthkofnahimlijaaGang25
import Derived.Deep.QuietTactic
import Derived.BigQuiet
namespace Go.Proofs.Ythkofnahimlijaa
open Go Go.RowKit
theorem quiet_below {B : Nat} {a w : World} (h : Below B a w) (n : Nat) : Below B a (w.drewN n) := ⟨h.os, h.tape, h.output, h.size, h.block⟩
theorem in_any (A : Option Addr) (cap : Nat) (xs : List Int) (y : Int) (w : World) (hN : Ns w A xs) (hl : xs.length ≤ 9223372036854775807) : Calls Try.prog 43 #[.slice A xs.length cap, .int .i64 y] w fun e w' => e = .returned (.bool (xs.contains y)) ∧ w = w' := by
  have HN := hid hN
  obtain ⟨m, hm⟩ : ∃ m, m = xs.length := ⟨_, rfl⟩
  rw [← hm] at hl ⊢
  have HM := hid hm
  obtain ⟨cb, hcb⟩ : ∃ cb, cb = xs.contains y := ⟨_, rfl⟩
  have HC := hid hcb
  rw [← hcb]
  clear hN hm hcb
  go_enter Try.func43, Try.ntmps43
  go_wp2_with fail
  go_loop [5] (fun x => ∃ k : Nat, k ≤ m ∧ x = .int .i64 k ∧ ∀ (j : Nat) z, j < k → xs[j]? = some z → z ≠ y) (fun x => m - (intOf x).toNat)
  case atStart => exact ⟨0, Nat.zero_le _, rfl, fun j z hj => by omega⟩
  case round =>
    obtain ⟨k, hk, rfl, hr⟩ := hrel
    have HR := hid hr
    clear hr
    by_cases hlt : k < m
    · have hlt' : (k : Int) < (m : Int) := by omega
      obtain ⟨x, hx⟩ : ∃ x, xs[k]? = some x := ⟨_, List.getElem?_eq_getElem (by have := HM.out; omega)⟩
      obtain ⟨b, off, rfl, hc⟩ := HN.out.at hx
      have c0 := hc k x hx
      have HX := hid hx
      clear hc hx
      by_cases hxy : x = y
      · subst hxy
        have hr : cb = true := by
          rw [HC.out, List.contains_iff_mem]
          exact List.mem_of_getElem? HX.out
        have HR2 := hid hr
        clear hr
        go_wp2_with fail
        go_returns
        exact ⟨ret_bool HR2.out.symm, rfl⟩
      · have hb : (x == y) = false := by simpa using hxy
        have HXY := hid hxy
        clear hxy
        go_wp2_with fail
        go_round
        case rel =>
          refine ⟨k + 1, by omega, by go_num, fun j z hj hz => ?_⟩
          rcases Nat.lt_or_ge j k with h | h
          · exact HR.out j z h hz
          · obtain rfl : j = k := by omega
            rw [HX.out] at hz
            cases hz
            exact HXY.out
        case measure => simp [intOf]; omega
    · obtain rfl : k = m := by omega
      have hr : cb = false := by
        rw [HC.out]
        cases hc : xs.contains y
        · rfl
        · rw [List.contains_iff_mem] at hc
          obtain ⟨j, hj⟩ := List.getElem?_of_mem hc
          exact absurd rfl (HR.out j y (by have := (List.getElem?_eq_some_iff.1 hj).1; have := HM.out; omega) hj)
      have HR2 := hid hr
      clear hr
      go_wp2_with fail
      go_returns
      exact ⟨ret_bool HR2.out.symm, rfl⟩
set_option maxHeartbeats 2000000 in
theorem same_ints (A C : Option Addr) (cap cap2 : Nat) (zs : List Int) (w : World) (ha : Ns w A zs) (hc : Ns w C zs) (hlen : zs.length ≤ 1000000) :
    Calls Try.prog 21 #[.slice A zs.length cap, .slice C zs.length cap2] w fun e w' => e = .returned (.bool true) ∧ Below w.heap.size w w' := by
  have HA := hid ha
  have HC := hid hc
  obtain ⟨n, hn⟩ : ∃ n, n = zs.length := ⟨_, rfl⟩
  rw [← hn] at hlen ⊢
  have HN := hid hn
  have h1 : (n : Int) ≤ 1000000 := by omega
  clear ha hc hn
  go_enter Try.func21, Try.ntmps21
  go_wp2_with fail
  go_loopw [5] (fun i wr => ∃ k : Nat, k ≤ n ∧ i = .int .i64 k ∧ Below w.heap.size w wr) (fun i _ => n - (intOf i).toNat)
  case atStart => exact ⟨0, Nat.zero_le _, rfl, Below.refl _ _⟩
  case round =>
    obtain ⟨k, hk, rfl, hg⟩ := hrel
    have HG := hid hg
    clear hg
    by_cases hlt : k < n
    · have hlt' : (k : Int) < (n : Int) := by omega
      obtain ⟨z, hz⟩ : ∃ z, zs[k]? = some z := ⟨_, List.getElem?_eq_getElem (by have := HN.out; omega)⟩
      obtain ⟨b, off, rfl, hx⟩ := (HA.out.keep HG.out).at hz
      obtain ⟨b2, off2, rfl, hx2⟩ := (HC.out.keep HG.out).at hz
      have x1 := hx k z hz
      have x2 := hx2 k z hz
      clear hx hx2 hz
      go_wp2_with fail
      go_quiet (fail)
      go_wp2_with fail
      go_roundw
      case rel => exact ⟨k + 1, by omega, by go_num, quiet_below HG.out _⟩
      case measure => simp [intOf]; omega
    · obtain rfl : k = n := by omega
      go_wp2_with fail
      all_goals go_returns
      all_goals exact ⟨rfl, HG.out⟩
end Go.Proofs.Ythkofnahimlijaa
