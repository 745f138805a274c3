/- The closure-taking loop of vec: what a function makes of each of the four places. Condition: the function's own contract. -/
import Derived.Test.YthkofnahimlijaaVec
import Derived.RegionTactic
import Derived.Deep.RegionWith
import Derived.Deep.DeepCutAuto
namespace Go.Proofs.Ythkofnahimlijaa
open Go Go.RowKit
theorem heapA {w : World} {o c : Obj} {k : Nat} (h : w.heap[k]? = some c) : (w.alloc o).heap[k]? = some c := (Below.heap_alloc _ _ _ (lt_of h)).trans h
theorem four {w : World} {B : Nat} {a0 a1 a2 a3 : Value} {T : TypeId} (h : w.heap[B]? = some (.cells #[a0, a1, a2, a3] T (0, 0))) : w.cell? ⟨B, 0, none⟩ = some a0 ∧ w.cell? ⟨B, 1, none⟩ = some a1 ∧ w.cell? ⟨B, 2, none⟩ = some a2 ∧ w.cell? ⟨B, 3, none⟩ = some a3 := by
  refine ⟨?_, ?_, ?_, ?_⟩
  · rw [cell_of h 0]; rfl
  · rw [cell_of h 1]; rfl
  · rw [cell_of h 2]; rfl
  · rw [cell_of h 3]; rfl
theorem fourF {w : World} {B : Nat} {cs : Array Value} {T : TypeId} (h : w.heap[B]? = some (.cells cs T (0, 0))) : w.frozen? ⟨B, 0, none⟩ = false ∧ w.frozen? ⟨B, 1, none⟩ = false ∧ w.frozen? ⟨B, 2, none⟩ = false ∧ w.frozen? ⟨B, 3, none⟩ = false :=
  ⟨free_of h 0, free_of h 1, free_of h 2, free_of h 3⟩
theorem four_set {w2 : World} {B : Nat} {T : TypeId} {a0 a1 a2 a3 : Value} (v0 v1 v2 v3 : Value) (h : w2.heap[B]? = some (.cells #[a0, a1, a2, a3] T (0, 0))) :
    ((((w2.setCell ⟨B, 0, none⟩ v0).setCell ⟨B, 1, none⟩ v1).setCell ⟨B, 2, none⟩ v2).setCell ⟨B, 3, none⟩ v3).heap[B]? = some (.cells #[v0, v1, v2, v3] T (0, 0)) := by
  have h0 := heap_setCell_same w2 B 0 _ T v0 h
  have h1 := heap_setCell_same _ B 1 _ T v1 h0
  have h2 := heap_setCell_same _ B 2 _ T v2 h1
  have h3 := heap_setCell_same _ B 3 _ T v3 h2
  simpa using h3
theorem four_other {w2 : World} {B k : Nat} {c : Obj} (v0 v1 v2 v3 : Value) (hk : k ≠ B) (h : w2.heap[k]? = some c) : ((((w2.setCell ⟨B, 0, none⟩ v0).setCell ⟨B, 1, none⟩ v1).setCell ⟨B, 2, none⟩ v2).setCell ⟨B, 3, none⟩ v3).heap[k]? = some c := by
  rw [heap_setCell_other _ _ _ _ hk, heap_setCell_other _ _ _ _ hk, heap_setCell_other _ _ _ _ hk, heap_setCell_other _ _ _ _ hk, h]
theorem four_below {B g : Nat} {a w2 : World} (v0 v1 v2 v3 : Value) (h : Below B a w2) (hg : B ≤ g) : Below B a ((((w2.setCell ⟨g, 0, none⟩ v0).setCell ⟨g, 1, none⟩ v1).setCell ⟨g, 2, none⟩ v2).setCell ⟨g, 3, none⟩ v3) :=
  (((h.setCell (p := ⟨g, 0, none⟩) hg _).setCell (p := ⟨g, 1, none⟩) hg _).setCell (p := ⟨g, 2, none⟩) hg _).setCell (p := ⟨g, 3, none⟩) hg _
/-- An array that is filled: the first k places told, 0 behind. -/
def garr (F : Nat → Int) (k i : Nat) : Int := if i < k then F i else 0
def gcells (F : Nat → Int) (k : Nat) : Array Value := #[.int .i64 (garr F k 0), .int .i64 (garr F k 1), .int .i64 (garr F k 2), .int .i64 (garr F k 3)]
theorem gcells_zero (F : Nat → Int) : gcells F 0 = #[.int .i64 0, .int .i64 0, .int .i64 0, .int .i64 0] := rfl
theorem gcells_four (F : Nat → Int) : gcells F 4 = #[.int .i64 (F 0), .int .i64 (F 1), .int .i64 (F 2), .int .i64 (F 3)] := rfl
theorem gcells_step (F : Nat → Int) (k : Nat) (hk : k < 4) : (gcells F k).setIfInBounds k (.int .i64 (F k)) = gcells F (k + 1) := by
  rcases (by omega : k = 0 ∨ k = 1 ∨ k = 2 ∨ k = 3) with rfl | rfl | rfl | rfl <;> rfl
theorem vec_at (H : Nat → Int) (i : Nat) (hi : i < 4) : (#[.int .i64 (H 0), .int .i64 (H 1), .int .i64 (H 2), .int .i64 (H 3)] : Array Value)[i]? = some (.int .i64 (H i)) := by
  rcases (by omega : i = 0 ∨ i = 1 ∨ i = 2 ∨ i = 3) with rfl | rfl | rfl | rfl <;> rfl
theorem arr_set {w : World} {B k : Nat} {T : TypeId} {F : Nat → Int} (hk : k < 4) (h : w.heap[B]? = some (.cells (gcells F k) T (0, 0))) : (w.setCell ⟨B, k, none⟩ (.int .i64 (F k))).heap[B]? = some (.cells (gcells F (k + 1)) T (0, 0)) := by
  have h0 := heap_setCell_same w B k _ T (.int .i64 (F k)) h
  rw [gcells_step F k hk] at h0
  exact h0
theorem each31_any (p : Value) (F : Nat → Int) (w : World) (KF : Hid (∀ (i : Nat) (W : World), i < 4 → Below w.heap.size w W → Calls Try.prog 57 #[.int .i64 i, p] W fun e w' => e = .returned (.int .i64 (F i)) ∧ Below W.heap.size W w')) :
    Calls Try.prog 56 #[.func (.func 57) #[] #[p]] w fun e w' => e = .returned (.agg #[.int .i64 (F 0), .int .i64 (F 1), .int .i64 (F 2), .int .i64 (F 3)]) ∧ Below w.heap.size w w' := by
  go_enter Try.func56, Try.ntmps56
  go_wp2_with fail
  go_loopw [5] (fun i wr => ∃ k : Nat, k ≤ 4 ∧ i = .int .i64 k ∧ Below w.heap.size w wr ∧ wr.heap[w.heap.size]? = some (.cells #[.int .i64 0, .int .i64 0, .int .i64 0, .int .i64 0] 40 (0, 0)) ∧ wr.heap[w.heap.size + 1]? = some (.cells (gcells F k) 40 (0, 0))) (fun i _ => 4 - (intOf i).toNat)
  case atStart =>
    refine ⟨0, by omega, rfl, by go_grown, heapA (heap_new w _), ?_⟩
    rw [gcells_zero]
    simpa using heap_new (w.alloc (.cells #[.int .i64 0, .int .i64 0, .int .i64 0, .int .i64 0] 40)) (.cells #[.int .i64 0, .int .i64 0, .int .i64 0, .int .i64 0] 40)
  case round =>
    obtain ⟨k, hk, rfl, hg, hR, hV⟩ := hrel
    have HG := hid hg
    have HR := hid hR
    have HV := hid hV
    clear hg hR hV
    by_cases h4 : k < 4
    · have h4' : (k : Int) < 4 := by omega
      go_wp2_with fail
      refine (KF.out k _ h4 HG.out).mono ?_
      rintro _ w2 ⟨rfl, hbb⟩
      have G2 := hid (below_step HG.out HG.out.size hbb)
      have R2 := hid (keep0 hbb HR.out)
      have V2 := hid (keep0 hbb HV.out)
      clear hbb
      have cV : w2.cell? ⟨w.heap.size + 1, k, none⟩ = some (.int .i64 (garr F k k)) := (cell_of V2.out k).trans (vec_at (garr F k) k h4)
      have fV := free_of V2.out k
      go_wp2_with fail
      go_roundw
      case rel => exact ⟨k + 1, by omega, by go_num, G2.out.setCell (p := ⟨w.heap.size + 1, k, none⟩) (by simp only; omega) _, (heap_setCell_other _ _ _ _ (by simp only; omega)).trans R2.out, arr_set h4 V2.out⟩
      case measure => simp [intOf]; omega
    · obtain rfl : k = 4 := by omega
      have HV4 := hid (show wr.heap[w.heap.size + 1]? = some (.cells #[.int .i64 (F 0), .int .i64 (F 1), .int .i64 (F 2), .int .i64 (F 3)] 40 (0, 0)) from HV.out)
      obtain ⟨a0, a1, a2, a3⟩ := four HV4.out
      obtain ⟨b0, b1, b2, b3⟩ := four HR.out
      obtain ⟨f0, f1, f2, f3⟩ := fourF HR.out
      go_wp2_with fail
      exact bodyPost_ret (v := .agg #[.int .i64 (F 0), .int .i64 (F 1), .int .i64 (F 2), .int .i64 (F 3)]) (results_cell_row Try.results56 _ _ w.heap.size 40 _ (0, 0) _ rfl (four_set _ _ _ _ HR.out) Try.underlying40 rfl (by kernel_rfl)) rfl ⟨rfl, four_below _ _ _ _ HG.out (Nat.le_refl _)⟩
theorem each28_any (p : Value) (q : Value) (F : Nat → Int) (w : World) (KF : Hid (∀ (i : Nat) (W : World), i < 4 → Below w.heap.size w W → Calls Try.prog 97 #[.int .i64 i, p, q] W fun e w' => e = .returned (.int .i64 (F i)) ∧ Below W.heap.size W w')) :
    Calls Try.prog 56 #[.func (.func 97) #[] #[p, q]] w fun e w' => e = .returned (.agg #[.int .i64 (F 0), .int .i64 (F 1), .int .i64 (F 2), .int .i64 (F 3)]) ∧ Below w.heap.size w w' := by
  go_enter Try.func56, Try.ntmps56
  go_wp2_with fail
  go_loopw [5] (fun i wr => ∃ k : Nat, k ≤ 4 ∧ i = .int .i64 k ∧ Below w.heap.size w wr ∧ wr.heap[w.heap.size]? = some (.cells #[.int .i64 0, .int .i64 0, .int .i64 0, .int .i64 0] 40 (0, 0)) ∧ wr.heap[w.heap.size + 1]? = some (.cells (gcells F k) 40 (0, 0))) (fun i _ => 4 - (intOf i).toNat)
  case atStart =>
    refine ⟨0, by omega, rfl, by go_grown, heapA (heap_new w _), ?_⟩
    rw [gcells_zero]
    simpa using heap_new (w.alloc (.cells #[.int .i64 0, .int .i64 0, .int .i64 0, .int .i64 0] 40)) (.cells #[.int .i64 0, .int .i64 0, .int .i64 0, .int .i64 0] 40)
  case round =>
    obtain ⟨k, hk, rfl, hg, hR, hV⟩ := hrel
    have HG := hid hg
    have HR := hid hR
    have HV := hid hV
    clear hg hR hV
    by_cases h4 : k < 4
    · have h4' : (k : Int) < 4 := by omega
      go_wp2_with fail
      refine (KF.out k _ h4 HG.out).mono ?_
      rintro _ w2 ⟨rfl, hbb⟩
      have G2 := hid (below_step HG.out HG.out.size hbb)
      have R2 := hid (keep0 hbb HR.out)
      have V2 := hid (keep0 hbb HV.out)
      clear hbb
      have cV : w2.cell? ⟨w.heap.size + 1, k, none⟩ = some (.int .i64 (garr F k k)) := (cell_of V2.out k).trans (vec_at (garr F k) k h4)
      have fV := free_of V2.out k
      go_wp2_with fail
      go_roundw
      case rel => exact ⟨k + 1, by omega, by go_num, G2.out.setCell (p := ⟨w.heap.size + 1, k, none⟩) (by simp only; omega) _, (heap_setCell_other _ _ _ _ (by simp only; omega)).trans R2.out, arr_set h4 V2.out⟩
      case measure => simp [intOf]; omega
    · obtain rfl : k = 4 := by omega
      have HV4 := hid (show wr.heap[w.heap.size + 1]? = some (.cells #[.int .i64 (F 0), .int .i64 (F 1), .int .i64 (F 2), .int .i64 (F 3)] 40 (0, 0)) from HV.out)
      obtain ⟨a0, a1, a2, a3⟩ := four HV4.out
      obtain ⟨b0, b1, b2, b3⟩ := four HR.out
      obtain ⟨f0, f1, f2, f3⟩ := fourF HR.out
      go_wp2_with fail
      exact bodyPost_ret (v := .agg #[.int .i64 (F 0), .int .i64 (F 1), .int .i64 (F 2), .int .i64 (F 3)]) (results_cell_row Try.results56 _ _ w.heap.size 40 _ (0, 0) _ rfl (four_set _ _ _ _ HR.out) Try.underlying40 rfl (by kernel_rfl)) rfl ⟨rfl, four_below _ _ _ _ HG.out (Nat.le_refl _)⟩
theorem each29_any (p : Value) (q : Value) (F : Nat → Int) (w : World) (KF : Hid (∀ (i : Nat) (W : World), i < 4 → Below w.heap.size w W → Calls Try.prog 83 #[.int .i64 i, p, q] W fun e w' => e = .returned (.int .i64 (F i)) ∧ Below W.heap.size W w')) :
    Calls Try.prog 56 #[.func (.func 83) #[] #[p, q]] w fun e w' => e = .returned (.agg #[.int .i64 (F 0), .int .i64 (F 1), .int .i64 (F 2), .int .i64 (F 3)]) ∧ Below w.heap.size w w' := by
  go_enter Try.func56, Try.ntmps56
  go_wp2_with fail
  go_loopw [5] (fun i wr => ∃ k : Nat, k ≤ 4 ∧ i = .int .i64 k ∧ Below w.heap.size w wr ∧ wr.heap[w.heap.size]? = some (.cells #[.int .i64 0, .int .i64 0, .int .i64 0, .int .i64 0] 40 (0, 0)) ∧ wr.heap[w.heap.size + 1]? = some (.cells (gcells F k) 40 (0, 0))) (fun i _ => 4 - (intOf i).toNat)
  case atStart =>
    refine ⟨0, by omega, rfl, by go_grown, heapA (heap_new w _), ?_⟩
    rw [gcells_zero]
    simpa using heap_new (w.alloc (.cells #[.int .i64 0, .int .i64 0, .int .i64 0, .int .i64 0] 40)) (.cells #[.int .i64 0, .int .i64 0, .int .i64 0, .int .i64 0] 40)
  case round =>
    obtain ⟨k, hk, rfl, hg, hR, hV⟩ := hrel
    have HG := hid hg
    have HR := hid hR
    have HV := hid hV
    clear hg hR hV
    by_cases h4 : k < 4
    · have h4' : (k : Int) < 4 := by omega
      go_wp2_with fail
      refine (KF.out k _ h4 HG.out).mono ?_
      rintro _ w2 ⟨rfl, hbb⟩
      have G2 := hid (below_step HG.out HG.out.size hbb)
      have R2 := hid (keep0 hbb HR.out)
      have V2 := hid (keep0 hbb HV.out)
      clear hbb
      have cV : w2.cell? ⟨w.heap.size + 1, k, none⟩ = some (.int .i64 (garr F k k)) := (cell_of V2.out k).trans (vec_at (garr F k) k h4)
      have fV := free_of V2.out k
      go_wp2_with fail
      go_roundw
      case rel => exact ⟨k + 1, by omega, by go_num, G2.out.setCell (p := ⟨w.heap.size + 1, k, none⟩) (by simp only; omega) _, (heap_setCell_other _ _ _ _ (by simp only; omega)).trans R2.out, arr_set h4 V2.out⟩
      case measure => simp [intOf]; omega
    · obtain rfl : k = 4 := by omega
      have HV4 := hid (show wr.heap[w.heap.size + 1]? = some (.cells #[.int .i64 (F 0), .int .i64 (F 1), .int .i64 (F 2), .int .i64 (F 3)] 40 (0, 0)) from HV.out)
      obtain ⟨a0, a1, a2, a3⟩ := four HV4.out
      obtain ⟨b0, b1, b2, b3⟩ := four HR.out
      obtain ⟨f0, f1, f2, f3⟩ := fourF HR.out
      go_wp2_with fail
      exact bodyPost_ret (v := .agg #[.int .i64 (F 0), .int .i64 (F 1), .int .i64 (F 2), .int .i64 (F 3)]) (results_cell_row Try.results56 _ _ w.heap.size 40 _ (0, 0) _ rfl (four_set _ _ _ _ HR.out) Try.underlying40 rfl (by kernel_rfl)) rfl ⟨rfl, four_below _ _ _ _ HG.out (Nat.le_refl _)⟩
theorem each32_any (p : Value) (q : Value) (F : Nat → Int) (w : World) (KF : Hid (∀ (i : Nat) (W : World), i < 4 → Below w.heap.size w W → Calls Try.prog 100 #[.int .i64 i, p, q] W fun e w' => e = .returned (.int .i64 (F i)) ∧ Below W.heap.size W w')) :
    Calls Try.prog 56 #[.func (.func 100) #[] #[p, q]] w fun e w' => e = .returned (.agg #[.int .i64 (F 0), .int .i64 (F 1), .int .i64 (F 2), .int .i64 (F 3)]) ∧ Below w.heap.size w w' := by
  go_enter Try.func56, Try.ntmps56
  go_wp2_with fail
  go_loopw [5] (fun i wr => ∃ k : Nat, k ≤ 4 ∧ i = .int .i64 k ∧ Below w.heap.size w wr ∧ wr.heap[w.heap.size]? = some (.cells #[.int .i64 0, .int .i64 0, .int .i64 0, .int .i64 0] 40 (0, 0)) ∧ wr.heap[w.heap.size + 1]? = some (.cells (gcells F k) 40 (0, 0))) (fun i _ => 4 - (intOf i).toNat)
  case atStart =>
    refine ⟨0, by omega, rfl, by go_grown, heapA (heap_new w _), ?_⟩
    rw [gcells_zero]
    simpa using heap_new (w.alloc (.cells #[.int .i64 0, .int .i64 0, .int .i64 0, .int .i64 0] 40)) (.cells #[.int .i64 0, .int .i64 0, .int .i64 0, .int .i64 0] 40)
  case round =>
    obtain ⟨k, hk, rfl, hg, hR, hV⟩ := hrel
    have HG := hid hg
    have HR := hid hR
    have HV := hid hV
    clear hg hR hV
    by_cases h4 : k < 4
    · have h4' : (k : Int) < 4 := by omega
      go_wp2_with fail
      refine (KF.out k _ h4 HG.out).mono ?_
      rintro _ w2 ⟨rfl, hbb⟩
      have G2 := hid (below_step HG.out HG.out.size hbb)
      have R2 := hid (keep0 hbb HR.out)
      have V2 := hid (keep0 hbb HV.out)
      clear hbb
      have cV : w2.cell? ⟨w.heap.size + 1, k, none⟩ = some (.int .i64 (garr F k k)) := (cell_of V2.out k).trans (vec_at (garr F k) k h4)
      have fV := free_of V2.out k
      go_wp2_with fail
      go_roundw
      case rel => exact ⟨k + 1, by omega, by go_num, G2.out.setCell (p := ⟨w.heap.size + 1, k, none⟩) (by simp only; omega) _, (heap_setCell_other _ _ _ _ (by simp only; omega)).trans R2.out, arr_set h4 V2.out⟩
      case measure => simp [intOf]; omega
    · obtain rfl : k = 4 := by omega
      have HV4 := hid (show wr.heap[w.heap.size + 1]? = some (.cells #[.int .i64 (F 0), .int .i64 (F 1), .int .i64 (F 2), .int .i64 (F 3)] 40 (0, 0)) from HV.out)
      obtain ⟨a0, a1, a2, a3⟩ := four HV4.out
      obtain ⟨b0, b1, b2, b3⟩ := four HR.out
      obtain ⟨f0, f1, f2, f3⟩ := fourF HR.out
      go_wp2_with fail
      exact bodyPost_ret (v := .agg #[.int .i64 (F 0), .int .i64 (F 1), .int .i64 (F 2), .int .i64 (F 3)]) (results_cell_row Try.results56 _ _ w.heap.size 40 _ (0, 0) _ rfl (four_set _ _ _ _ HR.out) Try.underlying40 rfl (by kernel_rfl)) rfl ⟨rfl, four_below _ _ _ _ HG.out (Nat.le_refl _)⟩
end Go.Proofs.Ythkofnahimlijaa
