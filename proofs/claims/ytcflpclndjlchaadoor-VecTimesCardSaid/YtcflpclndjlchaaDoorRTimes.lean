/- The reference's Times, called at any amount and number: what vec.Times tells. Condition: 64 bits. -/
import Derived.Test.YtcflpclndjlchaaDoorRefR
namespace Go.Proofs.YtcflpclndjlchaaDoor
open Go Go.RowKit
theorem fac_le {n : Int} (h : n ≤ 1073741824) : fac n = n := by unfold fac; rw [if_neg (by omega)]
/-- Where a place overflows, as the reference asks it. -/
theorem over_iff {a n : Int} (ha : 0 < a) : 1073741824 / a < n ↔ 1073741824 < a * fac n := by
  rw [Int.ediv_lt_iff_lt_mul ha, Int.mul_comm n a]
  unfold fac
  split
  · rename_i h
    have h1 : 1 * 1073741825 ≤ a * 1073741825 := Int.mul_le_mul_of_nonneg_right (by omega) (by omega)
    have h2 : a * 1073741825 ≤ a * n := Int.mul_le_mul_of_nonneg_left (by omega) (by omega)
    constructor <;> intro _ <;> omega
  · exact Iff.rfl
theorem fac_pos {n : Int} (h : 0 ≤ n) : 0 ≤ fac n := by unfold fac; split <;> omega
theorem not_over {a n : Int} (ha : 0 ≤ a) (ha2 : a ≤ 1073741824) (hn : 0 ≤ n) (h : ¬ 1073741824 < a * fac n) : 0 ≤ a * fac n ∧ a * fac n ≤ 1073741824 ∧ n * a = a * fac n := by
  have h0 := Int.mul_nonneg ha (fac_pos hn)
  refine ⟨h0, by omega, ?_⟩
  by_cases hz : a = 0
  · subst hz
    simp
  · by_cases hb : 1073741825 < n
    · have e : fac n = 1073741825 := by rw [fac, if_pos hb]
      rw [e] at h
      have : 1 * 1073741825 ≤ a * 1073741825 := Int.mul_le_mul_of_nonneg_right (by omega) (by omega)
      omega
    · rw [fac, if_neg hb, Int.mul_comm]
set_option maxHeartbeats 2000000 in
theorem rtimes_any (A : Nat → Int) (n : Int) (w : World) :
    Calls Tryd.prog 15 #[.agg #[.int .i64 (A 0), .int .i64 (A 1), .int .i64 (A 2), .int .i64 (A 3)], .int .i64 n] w fun en w' => en = .returned (.tuple #[.agg #[.int .i64 ((timesF A n).1 0), .int .i64 ((timesF A n).1 1), .int .i64 ((timesF A n).1 2), .int .i64 ((timesF A n).1 3)], .int .i64 (timesF A n).2]) ∧ Below w.heap.size w w' := by
  have A0 := hid (show ((w.alloc (.cells #[.int .i64 (A 0), .int .i64 (A 1), .int .i64 (A 2), .int .i64 (A 3)] 23)).alloc (.cells #[.int .i64 0, .int .i64 0, .int .i64 0, .int .i64 0] 23)).heap[w.heap.size]? = some (.cells #[.int .i64 (A 0), .int .i64 (A 1), .int .i64 (A 2), .int .i64 (A 3)] 23) from heapA (heap_new w _))
  have R0 := hid (show ((w.alloc (.cells #[.int .i64 (A 0), .int .i64 (A 1), .int .i64 (A 2), .int .i64 (A 3)] 23)).alloc (.cells #[.int .i64 0, .int .i64 0, .int .i64 0, .int .i64 0] 23)).heap[w.heap.size + 1]? = some (.cells #[.int .i64 0, .int .i64 0, .int .i64 0, .int .i64 0] 23) from by simpa using heap_new (w.alloc (.cells #[.int .i64 (A 0), .int .i64 (A 1), .int .i64 (A 2), .int .i64 (A 3)] 23)) (.cells #[.int .i64 0, .int .i64 0, .int .i64 0, .int .i64 0] 23))
  have g0 := hid (show Below w.heap.size w ((w.alloc (.cells #[.int .i64 (A 0), .int .i64 (A 1), .int .i64 (A 2), .int .i64 (A 3)] 23)).alloc (.cells #[.int .i64 0, .int .i64 0, .int .i64 0, .int .i64 0] 23)) from by go_grown)
  by_cases hA : rightB A = true
  · have KA := hid (rright_is hA)
    by_cases hn : 0 ≤ n
    · have ew : timesF A n = withF (fun i => A i * fac n) 30 := by rw [timesF, if_pos ⟨hA, hn⟩]
      rw [ew]
      clear ew
      have n0 : ¬ n < 0 := by omega
      have hr := (rightB_iff A).1 hA
      clear hA
      go_enter Tryd.func15, Tryd.ntmps15
      go_wp2_with fail
      refine (KA.out _).mono ?_
      rintro _ w2 ⟨rfl, hbb⟩
      have g2 := hid (below_step g0.out g0.out.size hbb)
      have A2 := hid (keep0 hbb A0.out)
      have R2 := hid (keep0 hbb R0.out)
      clear hbb A0 R0 g0
      go_wp2_with fail
      go_loopw [8] (fun i wr => ∃ k : Nat, k ≤ 4 ∧ i = .int .i64 k ∧ (∀ j, j < k → ¬ 1073741824 < A j * fac n) ∧ Below w.heap.size w wr ∧ wr.heap[w.heap.size]? = some (.cells #[.int .i64 (A 0), .int .i64 (A 1), .int .i64 (A 2), .int .i64 (A 3)] 23 (0, 0)) ∧ wr.heap[w.heap.size + 1]? = some (.cells #[.int .i64 0, .int .i64 0, .int .i64 0, .int .i64 0] 23 (0, 0)) ∧ wr.heap[w2.heap.size]? = some (.cells (gcells (fun i => A i * fac n) k) 23 (0, 0))) (fun i _ => 4 - (intOf i).toNat)
      case atStart => exact ⟨0, by omega, rfl, fun j hj => by omega, g2.out.alloc g2.out.size _, heapA A2.out, heapA R2.out, heap_new w2 _⟩
      case round =>
        obtain ⟨k, hk, rfl, hno, hg, hA, hR, hV⟩ := hrel
        have zR := hid (show w.heap.size + 1 < w2.heap.size from lt_of R2.out)
        have HG := hid hg
        have HA := hid hA
        have HR := hid hR
        have HV := hid hV
        clear hg hA hR hV
        by_cases h4 : k < 4
        · have h4' : (k : Int) < 4 := by omega
          have cA := (cell_of HA.out k).trans (vec_at A k h4)
          have cV : wr.cell? ⟨w2.heap.size, k, none⟩ = some (.int .i64 (garr (fun i => A i * fac n) k k)) := (cell_of HV.out k).trans (vec_at (garr (fun i => A i * fac n) k) k h4)
          have fV := free_of HV.out k
          have hrk := hr k h4
          by_cases hz : A k = 0 ∨ n = 0
          · have hp : A k * fac n = 0 := by
              rcases hz with hz | hz
              · rw [hz, Int.zero_mul]
              · rw [hz]
                show A k * 0 = 0
                rw [Int.mul_zero]
            have hno' : ∀ j, j < k + 1 → ¬ 1073741824 < A j * fac n := fun j hj => by
              by_cases hjk : j = k
              · subst hjk
                omega
              · exact hno j (by omega)
            have hV' := hid (show wr.heap[w2.heap.size]? = some (.cells (gcells (fun i => A i * fac n) (k + 1)) 23 (0, 0)) from by
              have e : gcells (fun i => A i * fac n) (k + 1) = gcells (fun i => A i * fac n) k := by
                rcases (by omega : k = 0 ∨ k = 1 ∨ k = 2 ∨ k = 3) with rfl | rfl | rfl | rfl <;> simp [gcells, garr, hp]
              rw [e]
              exact HV.out)
            rcases (by omega : A k = 0 ∨ (¬ A k = 0 ∧ n = 0)) with hy | ⟨hy, hn0⟩
            · have z0 : (A k == 0) = true := by simp [hy]
              clear hp hz
              go_wp2_with fail
              go_roundw
              case rel => exact ⟨k + 1, by omega, by go_num, hno', HG.out, HA.out, HR.out, hV'.out⟩
              case measure => simp [intOf]; omega
            · have z0 : (A k == 0) = false := by simp [hy]
              have z1 : (n == 0) = true := by simp [hn0]
              clear hp hz
              go_wp2_with fail
              go_roundw
              case rel => exact ⟨k + 1, by omega, by go_num, hno', HG.out, HA.out, HR.out, hV'.out⟩
              case measure => simp [intOf]; omega
          · have ap : 0 < A k := by omega
            have z0 : (A k == 0) = false := by simp; omega
            have z1 : (n == 0) = false := by simp; omega
            have z2 : ¬ A k = 0 := by omega
            have z3 : ¬ n = 0 := by omega
            have ak1 : 1 ≤ A k := by omega
            have iff := over_iff (n := n) ap
            have d0 : 0 ≤ 1073741824 / A k := Int.ediv_nonneg (by omega) (by omega)
            have d1 : 1073741824 / A k ≤ 1073741824 := Int.ediv_le_self _ (by omega)
            have wd : wrap64 (1073741824 / A k) = 1073741824 / A k := wr_in _ (by omega)
            by_cases ho : 1073741824 < A k * fac n
            · have ho' := iff.2 ho
              have hb : ¬ rightB (fun i => A i * fac n) = true := fun h => by
                have h2 : A k * fac n ≤ 1073741824 := ((rightB_iff _).1 h k h4).2
                omega
              have ew := hid (show withF (fun i => A i * fac n) 30 = (fun _ => 0, 30) from by rw [withF, if_neg hb])
              obtain ⟨b0, b1, b2, b3⟩ := four HR.out
              obtain ⟨f0, f1, f2, f3⟩ := fourF HR.out
              clear iff hb
              go_wp2_with fail
              exact bodyPost_ret (v := .tuple #[.agg #[.int .i64 0, .int .i64 0, .int .i64 0, .int .i64 0], .int .i64 30]) (results_row_tmp Tryd.results15 _ _ (w.heap.size + 1) 23 _ (0, 0) _ _ rfl rfl (four_set _ _ _ _ HR.out) Tryd.underlying23 rfl (by kernel_rfl)) rfl ⟨by rw [ew.out], four_below _ _ _ _ HG.out (by omega)⟩
            · have ho' : ¬ 1073741824 / A k < n := fun h => ho (iff.1 h)
              obtain ⟨m0, m1, m2⟩ := not_over hrk.1 hrk.2 hn ho
              have wm : wrap64 (n * A k) = A k * fac n := by rw [m2]; exact wr_in _ (by omega)
              have hno' : ∀ j, j < k + 1 → ¬ 1073741824 < A j * fac n := fun j hj => by
                by_cases hjk : j = k
                · subst hjk
                  exact ho
                · exact hno j (by omega)
              clear iff m2
              go_wp2_with fail
              go_roundw
              case rel =>
                refine ⟨k + 1, by omega, by go_num, hno', HG.out.setCell (p := ⟨w2.heap.size, k, none⟩) (by have := zR.out; simp only; omega) _, (heap_setCell_other _ _ _ _ (by have := zR.out; simp only; omega)).trans HA.out, (heap_setCell_other _ _ _ _ (by have := zR.out; simp only; omega)).trans HR.out, ?_⟩
                first | exact arr_set h4 HV.out | (rw [wm]; exact arr_set h4 HV.out)
              case measure => simp [intOf]; omega
        · obtain rfl : k = 4 := by omega
          have hS : rightB (fun i => A i * fac n) = true := (rightB_iff _).2 fun i hi => by
            obtain ⟨m0, m1, _⟩ := not_over (hr i hi).1 (hr i hi).2 hn (hno i hi)
            exact ⟨m0, m1⟩
          have ew := hid (show withF (fun i => A i * fac n) 30 = (fun i => A i * fac n, 0) from by rw [withF, if_pos hS])
          have HV4 := hid (show wr.heap[w2.heap.size]? = some (.cells #[.int .i64 (A 0 * fac n), .int .i64 (A 1 * fac n), .int .i64 (A 2 * fac n), .int .i64 (A 3 * fac n)] 23 (0, 0)) from HV.out)
          clear HV hS hno hr
          obtain ⟨a0, a1, a2, a3⟩ := four HV4.out
          obtain ⟨b0, b1, b2, b3⟩ := four HR.out
          obtain ⟨f0, f1, f2, f3⟩ := fourF HR.out
          go_wp2_with fail
          exact bodyPost_ret (v := .tuple #[.agg #[.int .i64 (A 0 * fac n), .int .i64 (A 1 * fac n), .int .i64 (A 2 * fac n), .int .i64 (A 3 * fac n)], .int .i64 0]) (results_row_tmp Tryd.results15 _ _ (w.heap.size + 1) 23 _ (0, 0) _ _ rfl rfl (four_set _ _ _ _ HR.out) Tryd.underlying23 rfl (by kernel_rfl)) rfl ⟨by rw [ew.out], four_below _ _ _ _ HG.out (by omega)⟩
    · have ew : timesF A n = (fun _ => 0, 1) := by rw [timesF, if_neg (fun h => hn h.2)]
      have n0 : n < 0 := by omega
      rw [ew]
      clear ew hA
      go_enter Tryd.func15, Tryd.ntmps15
      go_wp2_with fail
      refine (KA.out _).mono ?_
      rintro _ w2 ⟨rfl, hbb⟩
      have g2 := hid (below_step g0.out g0.out.size hbb)
      have R2 := hid (keep0 hbb R0.out)
      clear hbb A0 R0 g0
      obtain ⟨b0, b1, b2, b3⟩ := four R2.out
      obtain ⟨f0, f1, f2, f3⟩ := fourF R2.out
      go_wp2_with fail
      exact bodyPost_ret (v := .tuple #[.agg #[.int .i64 0, .int .i64 0, .int .i64 0, .int .i64 0], .int .i64 1]) (results_row_tmp Tryd.results15 _ _ (w.heap.size + 1) 23 _ (0, 0) _ _ rfl rfl (four_set _ _ _ _ R2.out) Tryd.underlying23 rfl (by kernel_rfl)) rfl ⟨rfl, four_below _ _ _ _ g2.out (by omega)⟩
  · have hA' : rightB A = false := by simpa using hA
    have KA := hid (rright_is hA')
    have ew : timesF A n = (fun _ => 0, 1) := by rw [timesF, if_neg (fun h => hA h.1)]
    rw [ew]
    clear ew hA hA'
    go_enter Tryd.func15, Tryd.ntmps15
    go_wp2_with fail
    refine (KA.out _).mono ?_
    rintro _ w2 ⟨rfl, hbb⟩
    have g2 := hid (below_step g0.out g0.out.size hbb)
    have R2 := hid (keep0 hbb R0.out)
    clear hbb A0 R0 g0
    obtain ⟨b0, b1, b2, b3⟩ := four R2.out
    obtain ⟨f0, f1, f2, f3⟩ := fourF R2.out
    go_wp2_with fail
    exact bodyPost_ret (v := .tuple #[.agg #[.int .i64 0, .int .i64 0, .int .i64 0, .int .i64 0], .int .i64 1]) (results_row_tmp Tryd.results15 _ _ (w.heap.size + 1) 23 _ (0, 0) _ _ rfl rfl (four_set _ _ _ _ R2.out) Tryd.underlying23 rfl (by kernel_rfl)) rfl ⟨rfl, four_below _ _ _ _ g2.out (by omega)⟩
end Go.Proofs.YtcflpclndjlchaaDoor
