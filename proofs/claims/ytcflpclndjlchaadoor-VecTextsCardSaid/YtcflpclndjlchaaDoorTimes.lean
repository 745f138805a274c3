/- vec.Times, called at any amount and number: the product, or the error. Condition: none beside 64 bits. -/
import Derived.Test.YtcflpclndjlchaaDoorSums
namespace Go.Proofs.YtcflpclndjlchaaDoor
open Go Go.RowKit
/-- The factor that is used: none above one more than the greatest amount. -/
def fac (n : Int) : Int := if 1073741825 < n then 1073741825 else n
def timesF (A : Nat → Int) (n : Int) : (Nat → Int) × Int := if rightB A = true ∧ 0 ≤ n then withF (fun i => A i * fac n) 30 else (fun _ => 0, 1)
theorem prod_bd {a n : Int} (h : 0 ≤ a ∧ a ≤ 1073741824) (hn : 0 ≤ n) : -9223372036854775808 ≤ a * fac n ∧ a * fac n ≤ 9223372036854775807 := by
  have f0 : 0 ≤ fac n ∧ fac n ≤ 1073741825 := by unfold fac; split <;> omega
  have h1 := Int.mul_nonneg h.1 f0.1
  have h2 : a * fac n ≤ 1073741824 * 1073741825 := Int.le_trans (Int.mul_le_mul_of_nonneg_right h.2 f0.1) (Int.mul_le_mul_of_nonneg_left f0.2 (by omega))
  omega
theorem one_of {w : World} {B : Nat} {v : Value} {T : TypeId} (h : w.heap[B]? = some (.cells #[v] T (0, 0))) : w.cell? ⟨B, 0, none⟩ = some v := by
  rw [cell_of h 0]; rfl
theorem one_set {w : World} {B : Nat} {u : Value} {T : TypeId} (v : Value) (h : w.heap[B]? = some (.cells #[u] T (0, 0))) : (w.setCell ⟨B, 0, none⟩ v).heap[B]? = some (.cells #[v] T (0, 0)) := by
  simpa using heap_setCell_same w B 0 _ T v h
set_option maxHeartbeats 1000000 in
theorem times_any (A : Nat → Int) (n : Int) (w : World) :
    Calls Tryd.prog 14 #[.agg #[.int .i64 (A 0), .int .i64 (A 1), .int .i64 (A 2), .int .i64 (A 3)], .int .i64 n] w fun en w' => en = .returned (.tuple #[.agg #[.int .i64 ((timesF A n).1 0), .int .i64 ((timesF A n).1 1), .int .i64 ((timesF A n).1 2), .int .i64 ((timesF A n).1 3)], .int .i64 (timesF A n).2]) ∧ Below w.heap.size w w' := by
  have A0 := hid (show (((w.alloc (.cells #[.int .i64 (A 0), .int .i64 (A 1), .int .i64 (A 2), .int .i64 (A 3)] 23)).alloc (.cells #[.int .i64 n] 3)).alloc (.cells #[.int .i64 0, .int .i64 0, .int .i64 0, .int .i64 0] 23)).heap[w.heap.size]? = some (.cells #[.int .i64 (A 0), .int .i64 (A 1), .int .i64 (A 2), .int .i64 (A 3)] 23) from heapA (heapA (heap_new w _)))
  have B0 := hid (show (((w.alloc (.cells #[.int .i64 (A 0), .int .i64 (A 1), .int .i64 (A 2), .int .i64 (A 3)] 23)).alloc (.cells #[.int .i64 n] 3)).alloc (.cells #[.int .i64 0, .int .i64 0, .int .i64 0, .int .i64 0] 23)).heap[w.heap.size + 1]? = some (.cells #[.int .i64 n] 3) from heapA (by simpa using heap_new (w.alloc (.cells #[.int .i64 (A 0), .int .i64 (A 1), .int .i64 (A 2), .int .i64 (A 3)] 23)) (.cells #[.int .i64 n] 3)))
  have R0 := hid (show (((w.alloc (.cells #[.int .i64 (A 0), .int .i64 (A 1), .int .i64 (A 2), .int .i64 (A 3)] 23)).alloc (.cells #[.int .i64 n] 3)).alloc (.cells #[.int .i64 0, .int .i64 0, .int .i64 0, .int .i64 0] 23)).heap[w.heap.size + 1 + 1]? = some (.cells #[.int .i64 0, .int .i64 0, .int .i64 0, .int .i64 0] 23) from by simpa using heap_new ((w.alloc (.cells #[.int .i64 (A 0), .int .i64 (A 1), .int .i64 (A 2), .int .i64 (A 3)] 23)).alloc (.cells #[.int .i64 n] 3)) (.cells #[.int .i64 0, .int .i64 0, .int .i64 0, .int .i64 0] 23))
  have g0 := hid (show Below w.heap.size w (((w.alloc (.cells #[.int .i64 (A 0), .int .i64 (A 1), .int .i64 (A 2), .int .i64 (A 3)] 23)).alloc (.cells #[.int .i64 n] 3)).alloc (.cells #[.int .i64 0, .int .i64 0, .int .i64 0, .int .i64 0] 23)) from by go_grown)
  by_cases hA : rightB A = true
  · have KA := hid (right_is hA)
    by_cases hn : 0 ≤ n
    · have KE : Hid (∀ W1 : World, W1.heap[w.heap.size]? = some (.cells #[.int .i64 (A 0), .int .i64 (A 1), .int .i64 (A 2), .int .i64 (A 3)] 23 (0, 0)) → W1.heap[w.heap.size + 1]? = some (.cells #[.int .i64 (fac n)] 3 (0, 0)) → Calls Tryd.prog 27 #[.func (.func 30) #[] #[.pointer (some ⟨w.heap.size, 0, none⟩), .pointer (some ⟨w.heap.size + 1, 0, none⟩)]] W1 fun e w' => e = .returned (.agg #[.int .i64 (A 0 * fac n), .int .i64 (A 1 * fac n), .int .i64 (A 2 * fac n), .int .i64 (A 3 * fac n)]) ∧ Below W1.heap.size W1 w') :=
        hid fun W1 h1 h2 => each30_any _ _ (fun i => A i * fac n) W1 (hid fun i W hi hb => times1_any i w.heap.size (w.heap.size + 1) (A i) (fac n) W hi ((cell_of (keep0 hb h1) i).trans (vec_at A i hi)) (one_of (keep0 hb h2)) (prod_bd ((rightB_iff A).1 hA i hi) hn))
      have KW := hid (fun W => within_any (fun i => A i * fac n) 30 W)
      have ew : timesF A n = withF (fun i => A i * fac n) 30 := by rw [timesF, if_pos ⟨hA, hn⟩]
      rw [ew]
      clear ew hA
      generalize withF (fun i => A i * fac n) 30 = L at *
      have n0 : ¬ n < 0 := by omega
      by_cases hf : 1073741825 < n
      · have ef : fac n = 1073741825 := by rw [fac, if_pos hf]
        rw [ef] at KE KW
        clear ef
        go_enter Tryd.func14, Tryd.ntmps14
        go_wp2_with fail
        refine (KA.out _).mono ?_
        rintro _ w2 ⟨rfl, hbb⟩
        have g2 := hid (below_step g0.out g0.out.size hbb)
        have A2 := hid (keep0 hbb A0.out)
        have B2 := hid (keep0 hbb B0.out)
        have R2 := hid (keep0 hbb R0.out)
        clear hbb A0 B0 R0 g0
        have cN := one_of B2.out
        have fN := free_of B2.out 0
        go_wp2_with fail
        refine (KE.out _ ((heap_setCell_other _ _ _ _ (by simp only; omega)).trans A2.out) (one_set _ B2.out)).mono ?_
        rintro _ w4 ⟨rfl, hbb⟩
        have g4 := hid (below_step (g2.out.setCell (p := ⟨w.heap.size + 1, 0, none⟩) (by simp only; omega) (.int .i64 1073741825)) (by simp only [World.size_setCell]; exact g2.out.size) hbb)
        have R4 := hid (keep0 hbb ((heap_setCell_other _ _ _ _ (by simp only; omega)).trans R2.out))
        clear hbb A2 B2 R2 g2 cN fN
        go_wp2_with fail
        refine (KW.out _).mono ?_
        rintro _ w5 ⟨rfl, hbb⟩
        have g5 := hid (below_step g4.out g4.out.size hbb)
        have R5 := hid (keep0 hbb R4.out)
        clear hbb R4 g4
        obtain ⟨b0, b1, b2, b3⟩ := four R5.out
        obtain ⟨f0, f1, f2, f3⟩ := fourF R5.out
        go_wp2_with fail
        exact bodyPost_ret (v := .tuple #[.agg #[.int .i64 (L.1 0), .int .i64 (L.1 1), .int .i64 (L.1 2), .int .i64 (L.1 3)], .int .i64 L.2]) (results_row_tmp Tryd.results14 _ _ (w.heap.size + 1 + 1) 23 _ (0, 0) _ _ rfl rfl (four_set _ _ _ _ R5.out) Tryd.underlying23 rfl (by kernel_rfl)) rfl ⟨rfl, four_below _ _ _ _ g5.out (by omega)⟩
      · have ef : fac n = n := by rw [fac, if_neg hf]
        rw [ef] at KE KW
        clear ef
        go_enter Tryd.func14, Tryd.ntmps14
        go_wp2_with fail
        refine (KA.out _).mono ?_
        rintro _ w2 ⟨rfl, hbb⟩
        have g2 := hid (below_step g0.out g0.out.size hbb)
        have A2 := hid (keep0 hbb A0.out)
        have B2 := hid (keep0 hbb B0.out)
        have R2 := hid (keep0 hbb R0.out)
        clear hbb A0 B0 R0 g0
        have cN := one_of B2.out
        have fN := free_of B2.out 0
        go_wp2_with fail
        refine (KE.out _ ((heap_setCell_other _ _ _ _ (by simp only; omega)).trans A2.out) (one_set _ B2.out)).mono ?_
        rintro _ w4 ⟨rfl, hbb⟩
        have g4 := hid (below_step (g2.out.setCell (p := ⟨w.heap.size + 1, 0, none⟩) (by simp only; omega) (.int .i64 n)) (by simp only [World.size_setCell]; exact g2.out.size) hbb)
        have R4 := hid (keep0 hbb ((heap_setCell_other _ _ _ _ (by simp only; omega)).trans R2.out))
        clear hbb A2 B2 R2 g2 cN fN
        go_wp2_with fail
        refine (KW.out _).mono ?_
        rintro _ w5 ⟨rfl, hbb⟩
        have g5 := hid (below_step g4.out g4.out.size hbb)
        have R5 := hid (keep0 hbb R4.out)
        clear hbb R4 g4
        obtain ⟨b0, b1, b2, b3⟩ := four R5.out
        obtain ⟨f0, f1, f2, f3⟩ := fourF R5.out
        go_wp2_with fail
        exact bodyPost_ret (v := .tuple #[.agg #[.int .i64 (L.1 0), .int .i64 (L.1 1), .int .i64 (L.1 2), .int .i64 (L.1 3)], .int .i64 L.2]) (results_row_tmp Tryd.results14 _ _ (w.heap.size + 1 + 1) 23 _ (0, 0) _ _ rfl rfl (four_set _ _ _ _ R5.out) Tryd.underlying23 rfl (by kernel_rfl)) rfl ⟨rfl, four_below _ _ _ _ g5.out (by omega)⟩
    · have ew : timesF A n = (fun _ => 0, 1) := by rw [timesF, if_neg (fun h => hn h.2)]
      have n0 : n < 0 := by omega
      rw [ew]
      clear ew hA
      go_enter Tryd.func14, Tryd.ntmps14
      go_wp2_with fail
      refine (KA.out _).mono ?_
      rintro _ w2 ⟨rfl, hbb⟩
      have g2 := hid (below_step g0.out g0.out.size hbb)
      have B2 := hid (keep0 hbb B0.out)
      have R2 := hid (keep0 hbb R0.out)
      clear hbb A0 B0 R0 g0
      have cN := one_of B2.out
      obtain ⟨b0, b1, b2, b3⟩ := four R2.out
      obtain ⟨f0, f1, f2, f3⟩ := fourF R2.out
      go_wp2_with fail
      exact bodyPost_ret (v := .tuple #[.agg #[.int .i64 0, .int .i64 0, .int .i64 0, .int .i64 0], .int .i64 1]) (results_row_tmp Tryd.results14 _ _ (w.heap.size + 1 + 1) 23 _ (0, 0) _ _ rfl rfl (four_set _ _ _ _ R2.out) Tryd.underlying23 rfl (by kernel_rfl)) rfl ⟨rfl, four_below _ _ _ _ g2.out (by omega)⟩
  · have hA' : rightB A = false := by simpa using hA
    have KA := hid (right_is hA')
    have ew : timesF A n = (fun _ => 0, 1) := by rw [timesF, if_neg (fun h => hA h.1)]
    rw [ew]
    clear ew hA hA'
    go_enter Tryd.func14, Tryd.ntmps14
    go_wp2_with fail
    refine (KA.out _).mono ?_
    rintro _ w2 ⟨rfl, hbb⟩
    have g2 := hid (below_step g0.out g0.out.size hbb)
    have R2 := hid (keep0 hbb R0.out)
    clear hbb A0 B0 R0 g0
    obtain ⟨b0, b1, b2, b3⟩ := four R2.out
    obtain ⟨f0, f1, f2, f3⟩ := fourF R2.out
    go_wp2_with fail
    exact bodyPost_ret (v := .tuple #[.agg #[.int .i64 0, .int .i64 0, .int .i64 0, .int .i64 0], .int .i64 1]) (results_row_tmp Tryd.results14 _ _ (w.heap.size + 1 + 1) 23 _ (0, 0) _ _ rfl rfl (four_set _ _ _ _ R2.out) Tryd.underlying23 rfl (by kernel_rfl)) rfl ⟨rfl, four_below _ _ _ _ g2.out (by omega)⟩
end Go.Proofs.YtcflpclndjlchaaDoor
