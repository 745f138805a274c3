/- vec.number, called at any text: its number, or -1. Condition: none.
 -/
import Derived.Test.YtcflpclndjlchaaDoorNumMath
namespace Go.Proofs.YtcflpclndjlchaaDoor
open Go Go.RowKit
set_option maxHeartbeats 2000000 in
theorem number_any (s : ByteArray) (w : World) :
    Calls Tryd.prog 35 #[.string s] w fun e w' => e = .returned (.int .i64 (numF s.size (byteAt s))) ∧ Below w.heap.size w w' := by
  have he := toList_empty s
  have hb := byte_is s
  by_cases h0 : s.size = 0
  · have e : numF s.size (byteAt s) = -1 := by rw [numF, if_pos (.inl h0)]
    rw [e]
    rw [h0] at he
    simp only [decide_true] at he
    have z1 : (s.size : Int) < 1 := by omega
    clear e hb
    go_enter Tryd.func35, Tryd.ntmps35
    go_wp2
    all_goals go_returns
    all_goals exact ⟨rfl, Below.refl _ _⟩
  · have he2 : s.toList.isEmpty = false := by rw [he]; simp [h0]
    have hn1 : ¬ (s.size : Int) < 1 := by omega
    have hn2 : 0 < s.size := by omega
    have hn3 : (0 : Int) < (s.size : Int) := by omega
    clear he
    by_cases h10 : 10 < s.size
    · have e : numF s.size (byteAt s) = -1 := by rw [numF, if_pos (.inr (.inl h10))]
      rw [e]
      have z1 : (10 : Int) < (s.size : Int) := by omega
      clear e hb
      go_enter Tryd.func35, Tryd.ntmps35
      go_wp2
      all_goals go_returns
      all_goals exact ⟨rfl, Below.refl _ _⟩
    · have z1 : ¬ (10 : Int) < (s.size : Int) := by omega
      have b0 := hb 0 hn2
      by_cases hh : 1 < s.size ∧ byteAt s 0 = 48
      · have e : numF s.size (byteAt s) = -1 := by rw [numF, if_pos (.inr (.inr hh))]
        rw [e]
        obtain ⟨hh1, hh2⟩ := hh
        have z2 : (1 : Int) < (s.size : Int) := by omega
        rw [hh2] at b0
        clear e hb
        go_enter Tryd.func35, Tryd.ntmps35
        go_wp2
        all_goals go_returns
        all_goals exact ⟨rfl, Below.refl _ _⟩
      · have e : numF s.size (byteAt s) = if ∀ i, i < s.size → 48 ≤ byteAt s i ∧ byteAt s i ≤ 57 then accF (byteAt s) s.size else -1 := by rw [numF, if_neg (by omega)]
        have R1 : Hid (∀ i, i < s.size → ¬ (48 ≤ byteAt s i ∧ byteAt s i ≤ 57) → numF s.size (byteAt s) = -1) := hid fun i hi h => by rw [e, if_neg (fun g => h (g i hi))]
        have R2 : Hid ((∀ i, i < s.size → 48 ≤ byteAt s i ∧ byteAt s i ≤ 57) → numF s.size (byteAt s) = accF (byteAt s) s.size) := hid fun h => by rw [e, if_pos h]
        have HB := hid hb
        clear e hb
        generalize numF s.size (byteAt s) = R at *
        have hc : ¬ 1 < s.size ∨ (1 < s.size ∧ ¬ byteAt s 0 = 48) := by omega
        rcases hc with hc | ⟨hc, hc2⟩
        all_goals
          try have z2 : ¬ (1 : Int) < (s.size : Int) := by omega
          try have z2 : (1 : Int) < (s.size : Int) := by omega
          try have z3 : ((byteAt s 0 : Int) == 48) = false := by simp; omega
          go_enter Tryd.func35, Tryd.ntmps35
          go_wp2_with fail
          go_loopw [3, 24] (fun n i wr => ∃ k : Nat, k ≤ s.size ∧ i = .int .i64 k ∧ n = .int .i64 (accF (byteAt s) k) ∧ Hid (∀ j, j < k → 48 ≤ byteAt s j ∧ byteAt s j ≤ 57) ∧ Below w.heap.size w wr) (fun _ i _ => s.size - (intOf i).toNat)
          case atStart => exact ⟨0, by omega, rfl, rfl, hid fun j hj => by omega, Below.refl _ _⟩
          case round =>
            obtain ⟨k, hk, rfl, rfl, hd, hg⟩ := hrel
            have HG := hid hg
            clear hg
            by_cases hlt : k < s.size
            · have hlt' : (k : Int) < (s.size : Int) := by omega
              have bk := HB.out k hlt
              obtain ⟨a0, a1⟩ := acc_le (by omega) hd.out
              have hs := hid (show accF (byteAt s) (k + 1) = 10 * accF (byteAt s) k + ((byteAt s k : Int) - 48) from rfl)
              by_cases hdk : 48 ≤ byteAt s k ∧ byteAt s k ≤ 57
              · obtain ⟨d0, d1⟩ := hdk
                have d2 : ¬ (byteAt s k : Int) < 48 := by omega
                have d3 : ¬ (57 : Int) < (byteAt s k : Int) := by omega
                have d4 : (byteAt s k : Int) ≤ 57 := by omega
                have d5 : (48 : Int) ≤ (byteAt s k : Int) := by omega
                generalize accF (byteAt s) k = acc at *
                go_wp2_with fail
                go_roundw
                case rel =>
                  refine ⟨k + 1, by omega, by go_num, ?_, hid fun j hj => ?_, HG.out⟩
                  · rw [hs.out]
                  · by_cases hjk : j = k
                    · subst hjk
                      exact ⟨d0, d1⟩
                    · exact hd.out j (by omega)
                case measure => simp [intOf]; omega
              · have hR := hid (R1.out k hlt hdk)
                rcases (by omega : byteAt s k < 48 ∨ (¬ byteAt s k < 48 ∧ 57 < byteAt s k)) with d | ⟨d, d'⟩
                · have d2 : (byteAt s k : Int) < 48 := by omega
                  go_wp2
                  all_goals go_returns
                  all_goals exact ⟨ret_i64 hR.out.symm, HG.out⟩
                · have d2 : ¬ (byteAt s k : Int) < 48 := by omega
                  have d3 : (57 : Int) < (byteAt s k : Int) := by omega
                  go_wp2
                  all_goals go_returns
                  all_goals exact ⟨ret_i64 hR.out.symm, HG.out⟩
            · obtain rfl : k = s.size := by omega
              have hR := hid (R2.out hd.out)
              go_wp2
              all_goals go_returns
              all_goals exact ⟨ret_i64 hR.out.symm, HG.out⟩
end Go.Proofs.YtcflpclndjlchaaDoor
