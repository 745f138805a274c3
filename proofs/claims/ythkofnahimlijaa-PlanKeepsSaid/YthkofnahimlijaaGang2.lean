/- Which nodes may be a gang; which places count. Conditions: the pool and the numbers stand in memory. -/
import Derived.Test.YthkofnahimlijaaGang1
namespace Go.Proofs.Ythkofnahimlijaa
open Go Go.RowKit
theorem Ns.at {w : World} {A : Option Addr} {xs : List Int} (h : Ns w A xs) {i : Nat} {x : Int} (hi : xs[i]? = some x) : ∃ b off, A = some ⟨b, off, none⟩ ∧ ∀ (j : Nat) y, xs[j]? = some y → w.cell? ⟨b, off + j, none⟩ = some (.int .i64 y) := by
  rcases h with rfl | ⟨b, off, rfl, _, hc⟩
  · simp at hi
  · exact ⟨b, off, rfl, hc⟩
theorem gang_nil (sv : Value) (w : World) : Calls Try.prog 32 #[.pointer none, sv] w fun e w' => e = .returned (.bool false) ∧ w = w' := by
  go_enter Try.func32, Try.ntmps32
  go_wp2
  all_goals go_returns
  all_goals exact ⟨rfl, rfl⟩
open Classical in
noncomputable def gangB (n : Nat) (xs : List Int) : Bool := decide (Gang n xs)
theorem gangB_iff (n : Nat) (xs : List Int) : gangB n xs = true ↔ Gang n xs := by
  unfold gangB
  exact @decide_eq_true_iff _ (Classical.propDecidable _)
theorem gangB_no {n : Nat} {xs : List Int} (h : ¬ Gang n xs) : gangB n xs = false := by
  cases hb : gangB n xs
  · rfl
  · exact absurd ((gangB_iff _ _).1 hb) h
theorem gang_any (q : Nat) (sv : Value) (n : Nat) (ps : Nat → Nat) (Ws : Nat → V4) (fs : Nat → Int → V4) (A : Option Addr) (cap : Nat) (xs : List Int) (w : World) (h : PL w q sv n ps Ws fs) (hN : Ns w A xs) (hl : xs.length ≤ 9223372036854775807) :
    Calls Try.prog 32 #[.pointer (some ⟨q, 0, none⟩), .slice A xs.length cap] w fun e w' => e = .returned (.bool (gangB n xs)) ∧ w = w' := by
  have KH := hid (fun i => has_any q sv n ps Ws fs i w h)
  have HN := hid hN
  obtain ⟨m, hm⟩ : ∃ m, m = xs.length := ⟨_, rfl⟩
  rw [← hm] at hl ⊢
  have HM := hid hm
  clear hN h hm
  by_cases h0 : m = 0
  · subst h0
    have hg : gangB n xs = false := gangB_no fun h => h.1 (List.eq_nil_of_length_eq_zero HM.out.symm)
    rw [hg]
    clear hg
    go_enter Try.func32, Try.ntmps32
    go_wp2
    all_goals go_returns
    all_goals exact ⟨rfl, rfl⟩
  · have h0' : ((m : Int) == 0) = false := by simp; omega
    obtain ⟨gb, hgb⟩ : ∃ gb, gb = gangB n xs := ⟨_, rfl⟩
    rw [← hgb]
    have HGB := hid hgb
    clear hgb
    go_enter Try.func32, Try.ntmps32
    go_wp2_with fail
    go_loop [16] (fun x => ∃ k : Nat, k ≤ m ∧ x = .int .i64 k ∧ (∀ (i : Nat) x, i < k → xs[i]? = some x → 0 ≤ x ∧ x < (n : Int)) ∧ (∀ (i : Nat) x y, i + 1 < k → xs[i]? = some x → xs[i + 1]? = some y → x < y)) (fun x => m - (intOf x).toNat)
    case atStart => exact ⟨0, Nat.zero_le _, rfl, fun i x hi => by omega, fun i x y hi => by omega⟩
    case round =>
      obtain ⟨k, hk, rfl, hr1, hr2⟩ := hrel
      have R1 := hid hr1
      have R2 := hid hr2
      clear hr1 hr2
      by_cases hlt : k < m
      · have hlt' : (k : Int) < (m : Int) := by omega
        obtain ⟨x, hx⟩ : ∃ x, xs[k]? = some x := ⟨_, List.getElem?_eq_getElem (by have := HM.out; omega)⟩
        obtain ⟨b, off, rfl, hc⟩ := HN.out.at hx
        have c0 := hc k x hx
        have HX := hid hx
        have HC := hid hc
        clear hc hx
        have KHx := hid (KH.out x)
        cases hh : hasB n x with
        | false =>
          rw [hh] at KHx
          have hno : gb = false := by
            rw [HGB.out]
            refine gangB_no fun h => ?_
            have := h.2.1 k x HX.out
            simp [hasB] at hh
            omega
          have HNO := hid hno
          clear hh hno
          go_wp2_with (go_at_call 55; (with_reducible refine KHx.out.mono ?_); rintro _ w2 ⟨rfl, rfl⟩)
          go_returns
          exact ⟨ret_bool HNO.out.symm, rfl⟩
        | true =>
          rw [hh] at KHx
          have hx01 : 0 ≤ x ∧ x < (n : Int) := by simpa [hasB] using hh
          clear hh
          rcases Nat.eq_zero_or_pos k with hk0 | hk0
          · have hkd : decide (0 < k) = false := decide_eq_false (by omega)
            have HK0 := hid hk0
            clear hk0
            go_wp2_with (go_at_call 55; (with_reducible refine KHx.out.mono ?_); rintro _ w2 ⟨rfl, rfl⟩)
            go_round
            case rel =>
              have hk0 := HK0.out
              refine ⟨k + 1, by omega, by go_num, fun i y hi hy => ?_, fun i y z hi => by omega⟩
              obtain rfl : i = k := by omega
              rw [HX.out] at hy
              cases hy
              exact hx01
            case measure => simp [intOf]; omega
          · obtain ⟨j, rfl⟩ : ∃ j, k = j + 1 := ⟨k - 1, by omega⟩
            obtain ⟨y, hy⟩ : ∃ y, xs[j]? = some y := ⟨_, List.getElem?_eq_getElem (by have := HM.out; omega)⟩
            have c1 := HC.out j y hy
            have HY := hid hy
            clear hy
            have hjd : decide ((0 : Int) < ((j + 1 : Nat) : Int)) = true := decide_eq_true (by omega)
            have hj1 : ((j + 1 : Nat) : Int) - 1 = (j : Int) := by omega
            have hjm : (j : Int) < (m : Int) := by omega
            by_cases hxy : x ≤ y
            · have hno : gb = false := by
                rw [HGB.out]
                refine gangB_no fun h => ?_
                have := h.2.2 j y x HY.out HX.out
                omega
              have HNO := hid hno
              clear hno
              go_wp2_with (go_at_call 55; (with_reducible refine KHx.out.mono ?_); rintro _ w2 ⟨rfl, rfl⟩)
              go_returns
              exact ⟨ret_bool HNO.out.symm, rfl⟩
            · have hxy' : decide (x ≤ y) = false := by simpa using hxy
              go_wp2_with (go_at_call 55; (with_reducible refine KHx.out.mono ?_); rintro _ w2 ⟨rfl, rfl⟩)
              go_round
              case rel =>
                refine ⟨j + 1 + 1, by omega, by go_num, fun i z hi hz => ?_, fun i z u hi hz hu => ?_⟩
                · rcases Nat.lt_or_ge i (j + 1) with hl2 | hl2
                  · exact R1.out i z hl2 hz
                  · obtain rfl : i = j + 1 := by omega
                    rw [HX.out] at hz
                    cases hz
                    exact hx01
                · rcases Nat.lt_or_ge i j with hl2 | hl2
                  · exact R2.out i z u (by omega) hz hu
                  · obtain rfl : i = j := by omega
                    rw [HX.out] at hu
                    rw [HY.out] at hz
                    cases hu
                    cases hz
                    omega
              case measure => simp [intOf]; omega
      · obtain rfl : k = m := by omega
        have hyes : gb = true := by
          rw [HGB.out, gangB_iff]
          refine ⟨fun h => ?_, fun i x hx => R1.out i x (by have := (List.getElem?_eq_some_iff.1 hx).1; have := HM.out; omega) hx, fun i x y hx hy => R2.out i x y (by have := (List.getElem?_eq_some_iff.1 hy).1; have := HM.out; omega) hx hy⟩
          have := HM.out
          rw [h] at this
          exact h0 this
        have HY := hid hyes
        clear hyes
        go_wp2_with fail
        go_returns
        exact ⟨ret_bool HY.out.symm, rfl⟩
end Go.Proofs.Ythkofnahimlijaa
