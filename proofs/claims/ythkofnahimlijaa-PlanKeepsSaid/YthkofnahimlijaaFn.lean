/- vec.Right, Least, Fits, within and the functions that they hand to the loop, called at any amounts. Conditions: none, or sums within 64 bits. -/
import Derived.Test.YthkofnahimlijaaEach
import Derived.Deep.RegionHeld3
namespace Go.Proofs.Ythkofnahimlijaa
open Go Go.RowKit
/-- A number brought between 0 and the greatest amount. -/
def cl (n : Int) : Int := if n < 0 then 0 else if 1073741824 < n then 1073741824 else n
theorem right1_any (i B : Nat) (n : Int) (w : World) (hi : i < 4) (c : w.cell? ⟨B, i, none⟩ = some (.int .i64 n)) :
    Calls Try.prog 57 #[.int .i64 i, .pointer (some ⟨B, 0, none⟩)] w fun e w' => e = .returned (.int .i64 (cl n)) ∧ Below w.heap.size w w' := by
  have hi' : (i : Int) < 4 := by omega
  have z := block_lt_of_cell c
  simp only at z
  rcases (by omega : n < 0 ∨ (¬ n < 0 ∧ 1073741824 < n) ∨ (¬ n < 0 ∧ ¬ 1073741824 < n)) with h | ⟨h, h2⟩ | ⟨h, h2⟩
  · have e : cl n = 0 := by simp [cl, h]
    rw [e]
    clear e
    go_enter Try.func57, Try.ntmps57
    go_wp2
    all_goals go_returns
    all_goals exact ⟨rfl, by go_grown⟩
  · have e : cl n = 1073741824 := by rw [cl, if_neg h, if_pos h2]
    rw [e]
    clear e
    go_enter Try.func57, Try.ntmps57
    go_wp2
    all_goals go_returns
    all_goals exact ⟨rfl, by go_grown⟩
  · have e : cl n = n := by rw [cl, if_neg h, if_neg h2]
    rw [e]
    clear e
    go_enter Try.func57, Try.ntmps57
    go_wp2
    all_goals go_returns
    all_goals exact ⟨rfl, by go_grown⟩
def mnF (A B : Nat → Int) : Nat → Int := fun i => if B i < A i then B i else A i
theorem wr_in (n : Int) (h : -9223372036854775808 ≤ n ∧ n ≤ 9223372036854775807) : wrap64 n = n := by unfold wrap64; omega
theorem add1_any (i B C : Nat) (a b : Int) (w : World) (hi : i < 4) (c1 : w.cell? ⟨B, i, none⟩ = some (.int .i64 a)) (c2 : w.cell? ⟨C, i, none⟩ = some (.int .i64 b)) (hs : -9223372036854775808 ≤ a + b ∧ a + b ≤ 9223372036854775807) :
    Calls Try.prog 97 #[.int .i64 i, .pointer (some ⟨B, 0, none⟩), .pointer (some ⟨C, 0, none⟩)] w fun e w' => e = .returned (.int .i64 (a + b)) ∧ Below w.heap.size w w' := by
  have hi' : (i : Int) < 4 := by omega
  have z1 := block_lt_of_cell c1
  have z2 := block_lt_of_cell c2
  simp only at z1 z2
  go_enter Try.func97, Try.ntmps97
  go_wp2_with fail
  go_region
  all_goals
    go_wp2_with fail
    go_returns
    exact ⟨by first | rfl | rw [wr_in _ hs], by go_grown⟩
theorem sub1_any (i B C : Nat) (a b : Int) (w : World) (hi : i < 4) (c1 : w.cell? ⟨B, i, none⟩ = some (.int .i64 a)) (c2 : w.cell? ⟨C, i, none⟩ = some (.int .i64 b)) (hs : -9223372036854775808 ≤ a - b ∧ a - b ≤ 9223372036854775807) :
    Calls Try.prog 83 #[.int .i64 i, .pointer (some ⟨B, 0, none⟩), .pointer (some ⟨C, 0, none⟩)] w fun e w' => e = .returned (.int .i64 (a - b)) ∧ Below w.heap.size w w' := by
  have hi' : (i : Int) < 4 := by omega
  have z1 := block_lt_of_cell c1
  have z2 := block_lt_of_cell c2
  simp only at z1 z2
  go_enter Try.func83, Try.ntmps83
  go_wp2_with fail
  go_region
  all_goals
    go_wp2_with fail
    go_returns
    exact ⟨by first | rfl | rw [wr_in _ hs], by go_grown⟩
theorem least1_any (i B C : Nat) (a b : Int) (w : World) (hi : i < 4) (c1 : w.cell? ⟨B, i, none⟩ = some (.int .i64 a)) (c2 : w.cell? ⟨C, i, none⟩ = some (.int .i64 b)) :
    Calls Try.prog 100 #[.int .i64 i, .pointer (some ⟨B, 0, none⟩), .pointer (some ⟨C, 0, none⟩)] w fun e w' => e = .returned (.int .i64 (if b < a then b else a)) ∧ Below w.heap.size w w' := by
  have hi' : (i : Int) < 4 := by omega
  have z1 := block_lt_of_cell c1
  have z2 := block_lt_of_cell c2
  simp only at z1 z2
  by_cases h : b < a
  · rw [if_pos h]
    go_enter Try.func100, Try.ntmps100
    go_wp2_with fail
    go_region
    all_goals
      go_wp2_with fail
      go_returns
      exact ⟨rfl, by go_grown⟩
  · rw [if_neg h]
    go_enter Try.func100, Try.ntmps100
    go_wp2_with fail
    go_region
    all_goals
      go_wp2_with fail
      go_returns
      exact ⟨rfl, by go_grown⟩
/-- May the amount be? -/
def rightB (M : Nat → Int) : Bool := eq4 (M 0) (M 1) (M 2) (M 3) (cl (M 0)) (cl (M 1)) (cl (M 2)) (cl (M 3))
theorem cl_eq (n : Int) : (n == cl n) = true ↔ 0 ≤ n ∧ n ≤ 1073741824 := by
  unfold cl
  rw [beq_iff_eq]
  split
  · omega
  · split <;> omega
theorem rightB_iff (M : Nat → Int) : rightB M = true ↔ ∀ i, i < 4 → 0 ≤ M i ∧ M i ≤ 1073741824 := by
  unfold rightB eq4
  rw [Bool.and_eq_true, Bool.and_eq_true, Bool.and_eq_true, cl_eq, cl_eq, cl_eq, cl_eq]
  constructor
  · rintro ⟨h0, h1, h2, h3⟩ i hi
    rcases (by omega : i = 0 ∨ i = 1 ∨ i = 2 ∨ i = 3) with rfl | rfl | rfl | rfl
    · exact h0
    · exact h1
    · exact h2
    · exact h3
  · intro h
    exact ⟨h 0 (by decide), h 1 (by decide), h 2 (by decide), h 3 (by decide)⟩
theorem right_any (M : Nat → Int) (w : World) :
    Calls Try.prog 34 #[.agg #[.int .i64 (M 0), .int .i64 (M 1), .int .i64 (M 2), .int .i64 (M 3)]] w fun e w' => e = .returned (.bool (rightB M)) ∧ Below w.heap.size w w' := by
  have K : Hid (∀ W1 : World, W1.heap[w.heap.size]? = some (.cells #[.int .i64 (M 0), .int .i64 (M 1), .int .i64 (M 2), .int .i64 (M 3)] 40 (0, 0)) → Calls Try.prog 56 #[.func (.func 57) #[] #[.pointer (some ⟨w.heap.size, 0, none⟩)]] W1 fun e w' => e = .returned (.agg #[.int .i64 (cl (M 0)), .int .i64 (cl (M 1)), .int .i64 (cl (M 2)), .int .i64 (cl (M 3))]) ∧ Below W1.heap.size W1 w') :=
    hid fun W1 h => each31_any _ (fun i => cl (M i)) W1 (hid fun i W hi hb => right1_any i w.heap.size (M i) W hi ((cell_of (keep0 hb h) i).trans (vec_at M i hi)))
  have hE := eq_vec
  have A0 := hid (heap_new w (.cells #[.int .i64 (M 0), .int .i64 (M 1), .int .i64 (M 2), .int .i64 (M 3)] 40))
  have g0 := hid (show Below w.heap.size w (w.alloc (.cells #[.int .i64 (M 0), .int .i64 (M 1), .int .i64 (M 2), .int .i64 (M 3)] 40)) from by go_grown)
  have hR := hid (show rightB M = eq4 (M 0) (M 1) (M 2) (M 3) (cl (M 0)) (cl (M 1)) (cl (M 2)) (cl (M 3)) from rfl)
  obtain ⟨a0, a1, a2, a3⟩ := four A0.out
  generalize cl (M 0) = x0 at *
  generalize cl (M 1) = x1 at *
  generalize cl (M 2) = x2 at *
  generalize cl (M 3) = x3 at *
  go_enter Try.func34, Try.ntmps34
  go_wp2_with fail
  go_region_held3 (fun w' => w'.cell? ⟨w.heap.size, 0, none⟩ = some (.int .i64 (M 0)) ∧ w'.cell? ⟨w.heap.size, 1, none⟩ = some (.int .i64 (M 1)) ∧ w'.cell? ⟨w.heap.size, 2, none⟩ = some (.int .i64 (M 2)) ∧ w'.cell? ⟨w.heap.size, 3, none⟩ = some (.int .i64 (M 3))) (first | exact ⟨a0, a1, a2, a3⟩ | exact ⟨b0, b1, b2, b3⟩ | go_keep) (first | (go_at_call 56; refine (K.out ((w.alloc (.cells #[.int .i64 (M 0), .int .i64 (M 1), .int .i64 (M 2), .int .i64 (M 3)] 40)).drew) A0.out).mono ?_; rintro _ w2 ⟨rfl, hbb⟩; have g2 := hid (below_step g0.out g0.out.size (unD hbb)); have A2 := hid (keep0 (unD hbb) A0.out); obtain ⟨b0, b1, b2, b3⟩ := four A2.out; clear hbb))
  all_goals go_wp2
  all_goals go_returns
  all_goals exact ⟨ret_bool hR.out.symm, g2.out⟩
end Go.Proofs.Ythkofnahimlijaa
