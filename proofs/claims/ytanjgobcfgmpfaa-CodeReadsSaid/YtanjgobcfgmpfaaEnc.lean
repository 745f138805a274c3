/- code.Uint, fold, Int, called at any bytes and numbers. Conditions: the bytes stand in memory, no longer than 2^39. -/
import Derived.Test.YtanjgobcfgmpfaaPut
import Derived.Laws.BitsAllLaws
import Derived.PlainAid
namespace Go.Proofs.Ytanjgobcfgmpfaa
open Go Go.RowKit
theorem ret_u64 {a b : Int} (h : a = b) : Ending.returned (.int .u64 a) = .returned (.int .u64 b) := by rw [h]
theorem uint_any (A : Option Addr) (cap n : Nat) (bs : List UInt8) (w : World) (hb : Bts w A bs) (hlen : bs.length ≤ 549755813888) (hn : n < 18446744073709551616) :
    Calls Try.prog 10 #[.slice A bs.length cap, .int .u64 n] w fun e w' => ∃ v, e = .returned v ∧ Own w' w.heap.size v (bs ++ encU n) ∧ Below w.heap.size w w' := by
  have K := hid (fresh_any A cap 10 bs w hb (by omega))
  clear hb
  go_enter Try.func10, Try.ntmps10
  go_wp2_with fail
  refine K.out.mono ?_
  rintro _ w1 ⟨v, rfl, ho, hbb⟩
  have G1 := hid hbb
  have K2 := hid (put_any w.heap.size n v bs w1 hn ho hbb.size (by omega))
  clear ho hbb K
  go_wp2_with fail
  refine K2.out.mono ?_
  rintro _ w2 ⟨v', rfl, ho, hbb⟩
  have O2 := hid ho
  have G2 := hid (G1.out.trans hbb)
  clear ho hbb
  go_wp2_with fail
  all_goals go_returns
  all_goals exact ⟨_, rfl, O2.out, G2.out⟩
/-- A number of either sign as one from 0 on. -/
def foldF (n : Int) : Nat := if n < 0 then (2 * (-1 - n) + 1).toNat else (2 * n).toNat
theorem foldF_lt {n : Int} (h : -9223372036854775808 ≤ n ∧ n ≤ 9223372036854775807) : foldF n < 18446744073709551616 := by
  unfold foldF
  split <;> omega
theorem or_one (k : Nat) (h : k < 9223372036854775808) : bits .or .u64 (2 * (k : Int)) 1 = 2 * (k : Int) + 1 := by
  have := u64_or_nat (2 * k) 1 (by omega) (by omega)
  rw [nat_join 1 (2 * k) 1 (by omega) (by omega)] at this
  have e : ((2 * k : Nat) : Int) = 2 * (k : Int) := by omega
  rw [e] at this
  rw [show (1 : Int) = ((1 : Nat) : Int) from rfl, this]
  omega
theorem fold_any (n : Int) (w : World) (hn : -9223372036854775808 ≤ n ∧ n ≤ 9223372036854775807) :
    Calls Try.prog 36 #[.int .i64 n] w fun e w' => e = .returned (.int .u64 (foldF n : Nat)) ∧ w = w' := by
  obtain ⟨n0, n1⟩ := hn
  by_cases h : n < 0
  · obtain ⟨k, hk⟩ := Int.eq_ofNat_of_zero_le (show 0 ≤ -1 - n by omega)
    have e : ((foldF n : Nat) : Int) = 2 * (k : Int) + 1 := by rw [foldF, if_pos h]; omega
    have ho := hid (or_one k (by omega))
    rw [e]
    obtain rfl : n = -1 - (k : Int) := by omega
    clear e hk
    go_enter Try.func36, Try.ntmps36
    go_wp2_with fail
    all_goals go_returns
    all_goals exact ⟨ret_u64 (by rw [show (-1 - (-1 - (k : Int))) * 2 = 2 * (k : Int) by omega]; exact ho.out), rfl⟩
  · have e : ((foldF n : Nat) : Int) = 2 * n := by rw [foldF, if_neg h]; omega
    rw [e]
    clear e
    go_enter Try.func36, Try.ntmps36
    go_wp2_with fail
    all_goals go_returns
    all_goals exact ⟨ret_u64 (by omega), rfl⟩
theorem int_any (A : Option Addr) (cap : Nat) (n : Int) (bs : List UInt8) (w : World) (hb : Bts w A bs) (hlen : bs.length ≤ 549755813888) (hn : -9223372036854775808 ≤ n ∧ n ≤ 9223372036854775807) :
    Calls Try.prog 12 #[.slice A bs.length cap, .int .i64 n] w fun e w' => ∃ v, e = .returned v ∧ Own w' w.heap.size v (bs ++ encU (foldF n)) ∧ Below w.heap.size w w' := by
  have K := hid (fresh_any A cap 10 bs w hb (by omega))
  have KF := hid (fun w => fold_any n w hn)
  have hf := foldF_lt hn
  clear hb
  go_enter Try.func12, Try.ntmps12
  go_wp2_with fail
  refine K.out.mono ?_
  rintro _ w1 ⟨v, rfl, ho, hbb⟩
  have G1 := hid hbb
  have K2 := hid (put_any w.heap.size (foldF n) v bs w1 hf ho hbb.size (by omega))
  clear ho hbb K
  go_wp2_with fail
  refine (KF.out _).mono ?_
  rintro _ w2 ⟨rfl, rfl⟩
  go_wp2_with fail
  refine K2.out.mono ?_
  rintro _ w2 ⟨v', rfl, ho, hbb⟩
  have O2 := hid ho
  have G2 := hid (G1.out.trans hbb)
  clear ho hbb
  go_wp2_with fail
  all_goals go_returns
  all_goals exact ⟨_, rfl, O2.out, G2.out⟩
end Go.Proofs.Ytanjgobcfgmpfaa
