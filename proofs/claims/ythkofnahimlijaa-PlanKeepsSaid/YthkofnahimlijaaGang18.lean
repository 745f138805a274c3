/- gang's Find where nothing may be asked. Conditions: the places stand in memory. -/
import Derived.Test.YthkofnahimlijaaGang17
import Derived.WalkMore
namespace Go.Proofs.Ythkofnahimlijaa
open Go Go.RowKit
theorem slice_of {w : World} {B : Nat} {x : Value} {n : Nat} {xs : List Value} (h : w.ownsRow B 3 1 x n xs) : ∃ S c, x = .slice S n c := by
  rcases ownsRow_any h with ⟨rfl, rfl⟩ | ⟨b, c, rfl⟩
  · exact ⟨_, _, rfl⟩
  · exact ⟨_, _, rfl⟩
def FindNo (w : World) (e : Ending) (w' : World) : Prop := e = .returned (.tuple #[.int .i64 0, .slice none 0 0, .bool false]) ∧ Below w.heap.size w w'
set_option maxHeartbeats 1000000 in
theorem find_bad (po : Option Addr) (n : Nat) (A : Option Addr) (cap : Nat) (xs : List Int) (m k a : Int) (v : V4) (w : World) (hq : HasK (.pointer po) n w) (hn : n ≤ 16) (hN : Ns w A xs) (hl : xs.length ≤ 9223372036854775807) (hb : m < 1 ∨ ((cntL n xs 16).length : Int) < m ∨ k < 1 ∨ v.okB = false) :
    Calls Try.prog 18 #[.pointer po, .slice A xs.length cap, .int .i64 m, .agg #[.int .i64 v.a, .int .i64 v.b, .int .i64 v.c, .int .i64 v.d], .int .i64 k, .int .i64 a] w (FindNo w) := by
  have KR := hid (right4 v)
  obtain ⟨W1, hW1⟩ : ∃ W1, W1 = (((w.alloc (.cells #[.pointer po] 49)).alloc (.cells #[.int .i64 m] 3)).alloc (.cells #[.int .i64 v.a, .int .i64 v.b, .int .i64 v.c, .int .i64 v.d] 40)).alloc (.cells #[.int .i64 k] 3) := ⟨_, rfl⟩
  have Q0 := hid (show W1.heap[w.heap.size]? = some (.cells #[.pointer po] 49 (0, 0)) from by rw [hW1]; exact heapA (heapA (heapA (heap_new w _))))
  have M0 := hid (show W1.heap[w.heap.size + 1]? = some (.cells #[.int .i64 m] 3 (0, 0)) from by rw [hW1]; exact heapA (heapA (by simpa using heap_new (w.alloc (.cells #[.pointer po] 49)) (.cells #[.int .i64 m] 3))))
  have V0 := hid (show W1.heap[w.heap.size + 1 + 1]? = some (.cells #[.int .i64 v.a, .int .i64 v.b, .int .i64 v.c, .int .i64 v.d] 40 (0, 0)) from by rw [hW1]; exact heapA (by simpa using heap_new ((w.alloc (.cells #[.pointer po] 49)).alloc (.cells #[.int .i64 m] 3)) (.cells #[.int .i64 v.a, .int .i64 v.b, .int .i64 v.c, .int .i64 v.d] 40)))
  have T0 := hid (show W1.heap[w.heap.size + 1 + 1 + 1]? = some (.cells #[.int .i64 k] 3 (0, 0)) from by rw [hW1]; simpa using heap_new (((w.alloc (.cells #[.pointer po] 49)).alloc (.cells #[.int .i64 m] 3)).alloc (.cells #[.int .i64 v.a, .int .i64 v.b, .int .i64 v.c, .int .i64 v.d] 40)) (.cells #[.int .i64 k] 3))
  have g0 := hid (show Below w.heap.size w W1 from by rw [hW1]; go_grown)
  have KC := hid (fun w1 (hb : Below w.heap.size w w1) => counting_any (.pointer po) n A cap xs w1 (fun i w2 h2 => hq i w2 (hb.trans (h2.mono hb.size))) hn (hN.keep hb) hl)
  have hll := cntL_le n xs 16
  have hW1' := hid hW1
  obtain ⟨z, hz⟩ : ∃ z, z = xs.length := ⟨_, rfl⟩
  rw [← hz] at KC ⊢
  obtain ⟨l, hl2⟩ : ∃ l, l = cntL n xs 16 := ⟨_, rfl⟩
  rw [← hl2] at KC hb hll
  clear hq hN hl hz hl2
  go_enter Try.func18, Try.ntmps18
  go_upto_region 1 with (fail)
  rw [← hW1'.out]
  clear hW1 hW1'
  have q0 := one Q0.out
  go_step3
  go_upto_region 2 with (go_at_call 38; (with_reducible refine (KC.out _ g0.out).mono ?_); rintro _ w4 ⟨vc, rfl, ho, hb4⟩; have g4 := hid (below_step g0.out g0.out.size hb4); have O4 := hid ho; obtain ⟨S, cS, rfl⟩ := slice_of ho; have M4 := hid (keep0 hb4 M0.out); have V4 := hid (keep0 hb4 V0.out); have T4 := hid (keep0 hb4 T0.out); clear hb4 ho)
  obtain ⟨W2, hW2⟩ : ∃ W2, W2 = w4.alloc (.cells #[.slice S l.length cS] 31) := ⟨_, rfl⟩
  rw [← hW2]
  have mb := one (show W2.heap[w.heap.size + 1]? = some (.cells #[.int .i64 m] 3 (0, 0)) from by rw [hW2]; exact heapA M4.out)
  have tb := one (show W2.heap[w.heap.size + 1 + 1 + 1]? = some (.cells #[.int .i64 k] 3 (0, 0)) from by rw [hW2]; exact heapA T4.out)
  obtain ⟨v0, v1, v2, v3⟩ := four (show W2.heap[w.heap.size + 1 + 1]? = some (.cells #[.int .i64 v.a, .int .i64 v.b, .int .i64 v.c, .int .i64 v.d] 40 (0, 0)) from by rw [hW2]; exact heapA V4.out)
  have nb := one (show W2.heap[w4.heap.size]? = some (.cells #[.slice S l.length cS] 31 (0, 0)) from by rw [hW2]; exact heap_new w4 _)
  have G2 := hid (show Below w.heap.size w W2 from by rw [hW2]; exact g4.out.alloc g4.out.size _)
  clear hW2 M4 V4 T4 g4 O4 KC Q0 M0 V0 T0 g0 q0 hll hn
  by_cases hm : m < 1
  · clear hb
    go_wp2_with fail
    go_returns
    exact ⟨rfl, G2.out⟩
  · have hm' : 1 ≤ m := by omega
    have hmd : decide (m < 1) = false := decide_eq_false hm
    by_cases hc : (l.length : Int) < m
    · clear hb
      go_wp2_with fail
      go_returns
      exact ⟨rfl, G2.out⟩
    · have hcd : decide ((l.length : Int) < m) = false := decide_eq_false hc
      have hc' : m ≤ (l.length : Int) := by omega
      by_cases hk : k < 1
      · clear hb
        go_wp2_with fail
        go_returns
        exact ⟨rfl, G2.out⟩
      · have hkd : decide (k < 1) = false := decide_eq_false hk
        have hk' : 1 ≤ k := by omega
        have hv : v.okB = false := by
          rcases hb with h | h | h | h
          · omega
          · omega
          · omega
          · exact h
        rw [hv] at KR
        clear hb hv
        go_wp2_with (go_at_call 34; (with_reducible refine (KR.out _).mono ?_); rintro _ w5 ⟨rfl, hb⟩; have g5 := hid (below_step G2.out G2.out.size hb); clear hb)
        go_returns
        exact ⟨rfl, g5.out⟩
end Go.Proofs.Ythkofnahimlijaa
