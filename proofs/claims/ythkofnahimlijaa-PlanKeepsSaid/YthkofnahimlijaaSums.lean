/- vec.Add, Sub, Times, Least, Fits, called at any amounts: sums, differences, products, or the errors. Conditions: none, or numbers of 64 bits. -/
import Derived.Test.YthkofnahimlijaaFn
namespace Go.Proofs.Ythkofnahimlijaa
open Go Go.RowKit
/-- The amount, or the error, where it may not be. -/
def withF (M : Nat → Int) (e : Int) : (Nat → Int) × Int := if rightB M = true then (M, 0) else (fun _ => 0, e)
theorem right_is {M : Nat → Int} {b : Bool} (h : rightB M = b) (w : World) : Calls Try.prog 34 #[.agg #[.int .i64 (M 0), .int .i64 (M 1), .int .i64 (M 2), .int .i64 (M 3)]] w fun e w' => e = .returned (.bool b) ∧ Below w.heap.size w w' := by
  rw [← h]
  exact right_any M w
theorem within_any (M : Nat → Int) (e : Int) (w : World) :
    Calls Try.prog 82 #[.agg #[.int .i64 (M 0), .int .i64 (M 1), .int .i64 (M 2), .int .i64 (M 3)], .int .i64 e] w fun en w' => en = .returned (.tuple #[.agg #[.int .i64 ((withF M e).1 0), .int .i64 ((withF M e).1 1), .int .i64 ((withF M e).1 2), .int .i64 ((withF M e).1 3)], .int .i64 (withF M e).2]) ∧ Below w.heap.size w w' := by
  have A0 := hid (show ((w.alloc (.cells #[.int .i64 (M 0), .int .i64 (M 1), .int .i64 (M 2), .int .i64 (M 3)] 40)).alloc (.cells #[.int .i64 0, .int .i64 0, .int .i64 0, .int .i64 0] 40)).heap[w.heap.size]? = some (.cells #[.int .i64 (M 0), .int .i64 (M 1), .int .i64 (M 2), .int .i64 (M 3)] 40) from heapA (heap_new w _))
  have R0 := hid (show ((w.alloc (.cells #[.int .i64 (M 0), .int .i64 (M 1), .int .i64 (M 2), .int .i64 (M 3)] 40)).alloc (.cells #[.int .i64 0, .int .i64 0, .int .i64 0, .int .i64 0] 40)).heap[w.heap.size + 1]? = some (.cells #[.int .i64 0, .int .i64 0, .int .i64 0, .int .i64 0] 40) from by simpa using heap_new (w.alloc (.cells #[.int .i64 (M 0), .int .i64 (M 1), .int .i64 (M 2), .int .i64 (M 3)] 40)) (.cells #[.int .i64 0, .int .i64 0, .int .i64 0, .int .i64 0] 40))
  have g0 := hid (show Below w.heap.size w ((w.alloc (.cells #[.int .i64 (M 0), .int .i64 (M 1), .int .i64 (M 2), .int .i64 (M 3)] 40)).alloc (.cells #[.int .i64 0, .int .i64 0, .int .i64 0, .int .i64 0] 40)) from by go_grown)
  by_cases h : rightB M = true
  · have ew : withF M e = (M, 0) := by rw [withF, if_pos h]
    have K := hid (right_is h)
    rw [ew]
    clear ew h
    go_enter Try.func82, Try.ntmps82
    go_wp2_with fail
    refine (K.out _).mono ?_
    rintro _ w2 ⟨rfl, hbb⟩
    have g2 := hid (below_step g0.out g0.out.size hbb)
    have A2 := hid (keep0 hbb A0.out)
    have R2 := hid (keep0 hbb R0.out)
    clear hbb A0 R0 g0
    obtain ⟨a0, a1, a2, a3⟩ := four A2.out
    obtain ⟨b0, b1, b2, b3⟩ := four R2.out
    obtain ⟨f0, f1, f2, f3⟩ := fourF R2.out
    go_wp2_with fail
    exact bodyPost_ret (v := .tuple #[.agg #[.int .i64 (M 0), .int .i64 (M 1), .int .i64 (M 2), .int .i64 (M 3)], .int .i64 0]) (results_row_tmp Try.results82 _ _ (w.heap.size + 1) 40 _ (0, 0) _ _ rfl rfl (four_set _ _ _ _ R2.out) Try.underlying40 rfl (by kernel_rfl)) rfl ⟨rfl, four_below _ _ _ _ g2.out (Nat.le_succ _)⟩
  · have ew : withF M e = (fun _ => 0, e) := by rw [withF, if_neg h]
    have h' : rightB M = false := by simpa using h
    have K := hid (right_is h')
    rw [ew]
    clear ew h h'
    go_enter Try.func82, Try.ntmps82
    go_wp2_with fail
    refine (K.out _).mono ?_
    rintro _ w2 ⟨rfl, hbb⟩
    have g2 := hid (below_step g0.out g0.out.size hbb)
    have R2 := hid (keep0 hbb R0.out)
    clear hbb A0 R0 g0
    obtain ⟨b0, b1, b2, b3⟩ := four R2.out
    obtain ⟨f0, f1, f2, f3⟩ := fourF R2.out
    go_wp2_with fail
    exact bodyPost_ret (v := .tuple #[.agg #[.int .i64 0, .int .i64 0, .int .i64 0, .int .i64 0], .int .i64 e]) (results_row_tmp Try.results82 _ _ (w.heap.size + 1) 40 _ (0, 0) _ _ rfl rfl (four_set _ _ _ _ R2.out) Try.underlying40 rfl (by kernel_rfl)) rfl ⟨rfl, four_below _ _ _ _ g2.out (Nat.le_succ _)⟩
def addF (A B : Nat → Int) : (Nat → Int) × Int := if rightB A = true ∧ rightB B = true then withF (fun i => A i + B i) 30 else (fun _ => 0, 1)
set_option maxHeartbeats 1000000 in
theorem add_any (A B : Nat → Int) (w : World) :
    Calls Try.prog 70 #[.agg #[.int .i64 (A 0), .int .i64 (A 1), .int .i64 (A 2), .int .i64 (A 3)], .agg #[.int .i64 (B 0), .int .i64 (B 1), .int .i64 (B 2), .int .i64 (B 3)]] w fun en w' => en = .returned (.tuple #[.agg #[.int .i64 ((addF A B).1 0), .int .i64 ((addF A B).1 1), .int .i64 ((addF A B).1 2), .int .i64 ((addF A B).1 3)], .int .i64 (addF A B).2]) ∧ Below w.heap.size w w' := by
  have A0 := hid (show (((w.alloc (.cells #[.int .i64 (A 0), .int .i64 (A 1), .int .i64 (A 2), .int .i64 (A 3)] 40)).alloc (.cells #[.int .i64 (B 0), .int .i64 (B 1), .int .i64 (B 2), .int .i64 (B 3)] 40)).alloc (.cells #[.int .i64 0, .int .i64 0, .int .i64 0, .int .i64 0] 40)).heap[w.heap.size]? = some (.cells #[.int .i64 (A 0), .int .i64 (A 1), .int .i64 (A 2), .int .i64 (A 3)] 40) from heapA (heapA (heap_new w _)))
  have B0 := hid (show (((w.alloc (.cells #[.int .i64 (A 0), .int .i64 (A 1), .int .i64 (A 2), .int .i64 (A 3)] 40)).alloc (.cells #[.int .i64 (B 0), .int .i64 (B 1), .int .i64 (B 2), .int .i64 (B 3)] 40)).alloc (.cells #[.int .i64 0, .int .i64 0, .int .i64 0, .int .i64 0] 40)).heap[w.heap.size + 1]? = some (.cells #[.int .i64 (B 0), .int .i64 (B 1), .int .i64 (B 2), .int .i64 (B 3)] 40) from heapA (by simpa using heap_new (w.alloc (.cells #[.int .i64 (A 0), .int .i64 (A 1), .int .i64 (A 2), .int .i64 (A 3)] 40)) (.cells #[.int .i64 (B 0), .int .i64 (B 1), .int .i64 (B 2), .int .i64 (B 3)] 40)))
  have R0 := hid (show (((w.alloc (.cells #[.int .i64 (A 0), .int .i64 (A 1), .int .i64 (A 2), .int .i64 (A 3)] 40)).alloc (.cells #[.int .i64 (B 0), .int .i64 (B 1), .int .i64 (B 2), .int .i64 (B 3)] 40)).alloc (.cells #[.int .i64 0, .int .i64 0, .int .i64 0, .int .i64 0] 40)).heap[w.heap.size + 1 + 1]? = some (.cells #[.int .i64 0, .int .i64 0, .int .i64 0, .int .i64 0] 40) from by simpa using heap_new ((w.alloc (.cells #[.int .i64 (A 0), .int .i64 (A 1), .int .i64 (A 2), .int .i64 (A 3)] 40)).alloc (.cells #[.int .i64 (B 0), .int .i64 (B 1), .int .i64 (B 2), .int .i64 (B 3)] 40)) (.cells #[.int .i64 0, .int .i64 0, .int .i64 0, .int .i64 0] 40))
  have g0 := hid (show Below w.heap.size w (((w.alloc (.cells #[.int .i64 (A 0), .int .i64 (A 1), .int .i64 (A 2), .int .i64 (A 3)] 40)).alloc (.cells #[.int .i64 (B 0), .int .i64 (B 1), .int .i64 (B 2), .int .i64 (B 3)] 40)).alloc (.cells #[.int .i64 0, .int .i64 0, .int .i64 0, .int .i64 0] 40)) from by go_grown)
  by_cases hA : rightB A = true
  · by_cases hB : rightB B = true
    · have KA := hid (right_is hA)
      have KB := hid (right_is hB)
      have bd : ∀ i, i < 4 → -9223372036854775808 ≤ A i + B i ∧ A i + B i ≤ 9223372036854775807 := fun i hi => by
        have h1 := (rightB_iff A).1 hA i hi
        have h2 := (rightB_iff B).1 hB i hi
        omega
      have KE : Hid (∀ W1 : World, W1.heap[w.heap.size]? = some (.cells #[.int .i64 (A 0), .int .i64 (A 1), .int .i64 (A 2), .int .i64 (A 3)] 40 (0, 0)) → W1.heap[w.heap.size + 1]? = some (.cells #[.int .i64 (B 0), .int .i64 (B 1), .int .i64 (B 2), .int .i64 (B 3)] 40 (0, 0)) → Calls Try.prog 56 #[.func (.func 97) #[] #[.pointer (some ⟨w.heap.size, 0, none⟩), .pointer (some ⟨w.heap.size + 1, 0, none⟩)]] W1 fun e w' => e = .returned (.agg #[.int .i64 (A 0 + B 0), .int .i64 (A 1 + B 1), .int .i64 (A 2 + B 2), .int .i64 (A 3 + B 3)]) ∧ Below W1.heap.size W1 w') :=
        hid fun W1 h1 h2 => each28_any _ _ (fun i => A i + B i) W1 (hid fun i W hi hb => add1_any i w.heap.size (w.heap.size + 1) (A i) (B i) W hi ((cell_of (keep0 hb h1) i).trans (vec_at A i hi)) ((cell_of (keep0 hb h2) i).trans (vec_at B i hi)) (bd i hi))
      have KW := hid (fun W => within_any (fun i => A i + B i) 30 W)
      have ew : addF A B = withF (fun i => A i + B i) 30 := by rw [addF, if_pos ⟨hA, hB⟩]
      rw [ew]
      clear ew hA hB bd
      generalize withF (fun i => A i + B i) 30 = L at *
      go_enter Try.func70, Try.ntmps70
      go_wp2_with fail
      refine (KA.out _).mono ?_
      rintro _ w2 ⟨rfl, hbb⟩
      have g2 := hid (below_step g0.out g0.out.size hbb)
      have A2 := hid (keep0 hbb A0.out)
      have B2 := hid (keep0 hbb B0.out)
      have R2 := hid (keep0 hbb R0.out)
      clear hbb A0 B0 R0 g0
      obtain ⟨b0, b1, b2, b3⟩ := four B2.out
      go_wp2_with fail
      refine (KB.out _).mono ?_
      rintro _ w3 ⟨rfl, hbb⟩
      have g3 := hid (below_step g2.out g2.out.size hbb)
      have A3 := hid (keep0 hbb A2.out)
      have B3 := hid (keep0 hbb B2.out)
      have R3 := hid (keep0 hbb R2.out)
      clear hbb A2 B2 R2 g2 b0 b1 b2 b3
      go_wp2_with fail
      refine (KE.out _ A3.out B3.out).mono ?_
      rintro _ w4 ⟨rfl, hbb⟩
      have g4 := hid (below_step g3.out g3.out.size hbb)
      have R4 := hid (keep0 hbb R3.out)
      clear hbb A3 B3 R3 g3
      go_wp2_with fail
      refine (KW.out _).mono ?_
      rintro _ w5 ⟨rfl, hbb⟩
      have g5 := hid (below_step g4.out g4.out.size hbb)
      have R5 := hid (keep0 hbb R4.out)
      clear hbb R4 g4
      obtain ⟨b0, b1, b2, b3⟩ := four R5.out
      obtain ⟨f0, f1, f2, f3⟩ := fourF R5.out
      go_wp2_with fail
      exact bodyPost_ret (v := .tuple #[.agg #[.int .i64 (L.1 0), .int .i64 (L.1 1), .int .i64 (L.1 2), .int .i64 (L.1 3)], .int .i64 L.2]) (results_row_tmp Try.results70 _ _ (w.heap.size + 1 + 1) 40 _ (0, 0) _ _ rfl rfl (four_set _ _ _ _ R5.out) Try.underlying40 rfl (by kernel_rfl)) rfl ⟨rfl, four_below _ _ _ _ g5.out (by omega)⟩
    · have hB' : rightB B = false := by simpa using hB
      have KA := hid (right_is hA)
      have KB := hid (right_is hB')
      have ew : addF A B = (fun _ => 0, 1) := by rw [addF, if_neg (fun h => hB h.2)]
      rw [ew]
      clear ew hA hB hB'
      go_enter Try.func70, Try.ntmps70
      go_wp2_with fail
      refine (KA.out _).mono ?_
      rintro _ w2 ⟨rfl, hbb⟩
      have g2 := hid (below_step g0.out g0.out.size hbb)
      have B2 := hid (keep0 hbb B0.out)
      have R2 := hid (keep0 hbb R0.out)
      clear hbb A0 B0 R0 g0
      obtain ⟨b0, b1, b2, b3⟩ := four B2.out
      go_wp2_with fail
      refine (KB.out _).mono ?_
      rintro _ w3 ⟨rfl, hbb⟩
      have g3 := hid (below_step g2.out g2.out.size hbb)
      have R3 := hid (keep0 hbb R2.out)
      clear hbb B2 R2 g2 b0 b1 b2 b3
      obtain ⟨b0, b1, b2, b3⟩ := four R3.out
      obtain ⟨f0, f1, f2, f3⟩ := fourF R3.out
      go_wp2_with fail
      exact bodyPost_ret (v := .tuple #[.agg #[.int .i64 0, .int .i64 0, .int .i64 0, .int .i64 0], .int .i64 1]) (results_row_tmp Try.results70 _ _ (w.heap.size + 1 + 1) 40 _ (0, 0) _ _ rfl rfl (four_set _ _ _ _ R3.out) Try.underlying40 rfl (by kernel_rfl)) rfl ⟨rfl, four_below _ _ _ _ g3.out (by omega)⟩
  · have hA' : rightB A = false := by simpa using hA
    have KA := hid (right_is hA')
    have ew : addF A B = (fun _ => 0, 1) := by rw [addF, if_neg (fun h => hA h.1)]
    rw [ew]
    clear ew hA hA'
    go_enter Try.func70, Try.ntmps70
    go_wp2_with fail
    refine (KA.out _).mono ?_
    rintro _ w2 ⟨rfl, hbb⟩
    have g2 := hid (below_step g0.out g0.out.size hbb)
    have R2 := hid (keep0 hbb R0.out)
    clear hbb A0 B0 R0 g0
    obtain ⟨b0, b1, b2, b3⟩ := four R2.out
    obtain ⟨f0, f1, f2, f3⟩ := fourF R2.out
    go_wp2_with fail
    exact bodyPost_ret (v := .tuple #[.agg #[.int .i64 0, .int .i64 0, .int .i64 0, .int .i64 0], .int .i64 1]) (results_row_tmp Try.results70 _ _ (w.heap.size + 1 + 1) 40 _ (0, 0) _ _ rfl rfl (four_set _ _ _ _ R2.out) Try.underlying40 rfl (by kernel_rfl)) rfl ⟨rfl, four_below _ _ _ _ g2.out (by omega)⟩
def subF (A B : Nat → Int) : (Nat → Int) × Int := if rightB A = true ∧ rightB B = true then withF (fun i => A i - B i) 31 else (fun _ => 0, 1)
set_option maxHeartbeats 1000000 in
theorem sub_any (A B : Nat → Int) (w : World) :
    Calls Try.prog 64 #[.agg #[.int .i64 (A 0), .int .i64 (A 1), .int .i64 (A 2), .int .i64 (A 3)], .agg #[.int .i64 (B 0), .int .i64 (B 1), .int .i64 (B 2), .int .i64 (B 3)]] w fun en w' => en = .returned (.tuple #[.agg #[.int .i64 ((subF A B).1 0), .int .i64 ((subF A B).1 1), .int .i64 ((subF A B).1 2), .int .i64 ((subF A B).1 3)], .int .i64 (subF A B).2]) ∧ Below w.heap.size w w' := by
  have A0 := hid (show (((w.alloc (.cells #[.int .i64 (A 0), .int .i64 (A 1), .int .i64 (A 2), .int .i64 (A 3)] 40)).alloc (.cells #[.int .i64 (B 0), .int .i64 (B 1), .int .i64 (B 2), .int .i64 (B 3)] 40)).alloc (.cells #[.int .i64 0, .int .i64 0, .int .i64 0, .int .i64 0] 40)).heap[w.heap.size]? = some (.cells #[.int .i64 (A 0), .int .i64 (A 1), .int .i64 (A 2), .int .i64 (A 3)] 40) from heapA (heapA (heap_new w _)))
  have B0 := hid (show (((w.alloc (.cells #[.int .i64 (A 0), .int .i64 (A 1), .int .i64 (A 2), .int .i64 (A 3)] 40)).alloc (.cells #[.int .i64 (B 0), .int .i64 (B 1), .int .i64 (B 2), .int .i64 (B 3)] 40)).alloc (.cells #[.int .i64 0, .int .i64 0, .int .i64 0, .int .i64 0] 40)).heap[w.heap.size + 1]? = some (.cells #[.int .i64 (B 0), .int .i64 (B 1), .int .i64 (B 2), .int .i64 (B 3)] 40) from heapA (by simpa using heap_new (w.alloc (.cells #[.int .i64 (A 0), .int .i64 (A 1), .int .i64 (A 2), .int .i64 (A 3)] 40)) (.cells #[.int .i64 (B 0), .int .i64 (B 1), .int .i64 (B 2), .int .i64 (B 3)] 40)))
  have R0 := hid (show (((w.alloc (.cells #[.int .i64 (A 0), .int .i64 (A 1), .int .i64 (A 2), .int .i64 (A 3)] 40)).alloc (.cells #[.int .i64 (B 0), .int .i64 (B 1), .int .i64 (B 2), .int .i64 (B 3)] 40)).alloc (.cells #[.int .i64 0, .int .i64 0, .int .i64 0, .int .i64 0] 40)).heap[w.heap.size + 1 + 1]? = some (.cells #[.int .i64 0, .int .i64 0, .int .i64 0, .int .i64 0] 40) from by simpa using heap_new ((w.alloc (.cells #[.int .i64 (A 0), .int .i64 (A 1), .int .i64 (A 2), .int .i64 (A 3)] 40)).alloc (.cells #[.int .i64 (B 0), .int .i64 (B 1), .int .i64 (B 2), .int .i64 (B 3)] 40)) (.cells #[.int .i64 0, .int .i64 0, .int .i64 0, .int .i64 0] 40))
  have g0 := hid (show Below w.heap.size w (((w.alloc (.cells #[.int .i64 (A 0), .int .i64 (A 1), .int .i64 (A 2), .int .i64 (A 3)] 40)).alloc (.cells #[.int .i64 (B 0), .int .i64 (B 1), .int .i64 (B 2), .int .i64 (B 3)] 40)).alloc (.cells #[.int .i64 0, .int .i64 0, .int .i64 0, .int .i64 0] 40)) from by go_grown)
  by_cases hA : rightB A = true
  · by_cases hB : rightB B = true
    · have KA := hid (right_is hA)
      have KB := hid (right_is hB)
      have bd : ∀ i, i < 4 → -9223372036854775808 ≤ A i - B i ∧ A i - B i ≤ 9223372036854775807 := fun i hi => by
        have h1 := (rightB_iff A).1 hA i hi
        have h2 := (rightB_iff B).1 hB i hi
        omega
      have KE : Hid (∀ W1 : World, W1.heap[w.heap.size]? = some (.cells #[.int .i64 (A 0), .int .i64 (A 1), .int .i64 (A 2), .int .i64 (A 3)] 40 (0, 0)) → W1.heap[w.heap.size + 1]? = some (.cells #[.int .i64 (B 0), .int .i64 (B 1), .int .i64 (B 2), .int .i64 (B 3)] 40 (0, 0)) → Calls Try.prog 56 #[.func (.func 83) #[] #[.pointer (some ⟨w.heap.size, 0, none⟩), .pointer (some ⟨w.heap.size + 1, 0, none⟩)]] W1 fun e w' => e = .returned (.agg #[.int .i64 (A 0 - B 0), .int .i64 (A 1 - B 1), .int .i64 (A 2 - B 2), .int .i64 (A 3 - B 3)]) ∧ Below W1.heap.size W1 w') :=
        hid fun W1 h1 h2 => each29_any _ _ (fun i => A i - B i) W1 (hid fun i W hi hb => sub1_any i w.heap.size (w.heap.size + 1) (A i) (B i) W hi ((cell_of (keep0 hb h1) i).trans (vec_at A i hi)) ((cell_of (keep0 hb h2) i).trans (vec_at B i hi)) (bd i hi))
      have KW := hid (fun W => within_any (fun i => A i - B i) 31 W)
      have ew : subF A B = withF (fun i => A i - B i) 31 := by rw [subF, if_pos ⟨hA, hB⟩]
      rw [ew]
      clear ew hA hB bd
      generalize withF (fun i => A i - B i) 31 = L at *
      go_enter Try.func64, Try.ntmps64
      go_wp2_with fail
      refine (KA.out _).mono ?_
      rintro _ w2 ⟨rfl, hbb⟩
      have g2 := hid (below_step g0.out g0.out.size hbb)
      have A2 := hid (keep0 hbb A0.out)
      have B2 := hid (keep0 hbb B0.out)
      have R2 := hid (keep0 hbb R0.out)
      clear hbb A0 B0 R0 g0
      obtain ⟨b0, b1, b2, b3⟩ := four B2.out
      go_wp2_with fail
      refine (KB.out _).mono ?_
      rintro _ w3 ⟨rfl, hbb⟩
      have g3 := hid (below_step g2.out g2.out.size hbb)
      have A3 := hid (keep0 hbb A2.out)
      have B3 := hid (keep0 hbb B2.out)
      have R3 := hid (keep0 hbb R2.out)
      clear hbb A2 B2 R2 g2 b0 b1 b2 b3
      go_wp2_with fail
      refine (KE.out _ A3.out B3.out).mono ?_
      rintro _ w4 ⟨rfl, hbb⟩
      have g4 := hid (below_step g3.out g3.out.size hbb)
      have R4 := hid (keep0 hbb R3.out)
      clear hbb A3 B3 R3 g3
      go_wp2_with fail
      refine (KW.out _).mono ?_
      rintro _ w5 ⟨rfl, hbb⟩
      have g5 := hid (below_step g4.out g4.out.size hbb)
      have R5 := hid (keep0 hbb R4.out)
      clear hbb R4 g4
      obtain ⟨b0, b1, b2, b3⟩ := four R5.out
      obtain ⟨f0, f1, f2, f3⟩ := fourF R5.out
      go_wp2_with fail
      exact bodyPost_ret (v := .tuple #[.agg #[.int .i64 (L.1 0), .int .i64 (L.1 1), .int .i64 (L.1 2), .int .i64 (L.1 3)], .int .i64 L.2]) (results_row_tmp Try.results64 _ _ (w.heap.size + 1 + 1) 40 _ (0, 0) _ _ rfl rfl (four_set _ _ _ _ R5.out) Try.underlying40 rfl (by kernel_rfl)) rfl ⟨rfl, four_below _ _ _ _ g5.out (by omega)⟩
    · have hB' : rightB B = false := by simpa using hB
      have KA := hid (right_is hA)
      have KB := hid (right_is hB')
      have ew : subF A B = (fun _ => 0, 1) := by rw [subF, if_neg (fun h => hB h.2)]
      rw [ew]
      clear ew hA hB hB'
      go_enter Try.func64, Try.ntmps64
      go_wp2_with fail
      refine (KA.out _).mono ?_
      rintro _ w2 ⟨rfl, hbb⟩
      have g2 := hid (below_step g0.out g0.out.size hbb)
      have B2 := hid (keep0 hbb B0.out)
      have R2 := hid (keep0 hbb R0.out)
      clear hbb A0 B0 R0 g0
      obtain ⟨b0, b1, b2, b3⟩ := four B2.out
      go_wp2_with fail
      refine (KB.out _).mono ?_
      rintro _ w3 ⟨rfl, hbb⟩
      have g3 := hid (below_step g2.out g2.out.size hbb)
      have R3 := hid (keep0 hbb R2.out)
      clear hbb B2 R2 g2 b0 b1 b2 b3
      obtain ⟨b0, b1, b2, b3⟩ := four R3.out
      obtain ⟨f0, f1, f2, f3⟩ := fourF R3.out
      go_wp2_with fail
      exact bodyPost_ret (v := .tuple #[.agg #[.int .i64 0, .int .i64 0, .int .i64 0, .int .i64 0], .int .i64 1]) (results_row_tmp Try.results64 _ _ (w.heap.size + 1 + 1) 40 _ (0, 0) _ _ rfl rfl (four_set _ _ _ _ R3.out) Try.underlying40 rfl (by kernel_rfl)) rfl ⟨rfl, four_below _ _ _ _ g3.out (by omega)⟩
  · have hA' : rightB A = false := by simpa using hA
    have KA := hid (right_is hA')
    have ew : subF A B = (fun _ => 0, 1) := by rw [subF, if_neg (fun h => hA h.1)]
    rw [ew]
    clear ew hA hA'
    go_enter Try.func64, Try.ntmps64
    go_wp2_with fail
    refine (KA.out _).mono ?_
    rintro _ w2 ⟨rfl, hbb⟩
    have g2 := hid (below_step g0.out g0.out.size hbb)
    have R2 := hid (keep0 hbb R0.out)
    clear hbb A0 B0 R0 g0
    obtain ⟨b0, b1, b2, b3⟩ := four R2.out
    obtain ⟨f0, f1, f2, f3⟩ := fourF R2.out
    go_wp2_with fail
    exact bodyPost_ret (v := .tuple #[.agg #[.int .i64 0, .int .i64 0, .int .i64 0, .int .i64 0], .int .i64 1]) (results_row_tmp Try.results64 _ _ (w.heap.size + 1 + 1) 40 _ (0, 0) _ _ rfl rfl (four_set _ _ _ _ R2.out) Try.underlying40 rfl (by kernel_rfl)) rfl ⟨rfl, four_below _ _ _ _ g2.out (by omega)⟩
theorem least_any (A B : Nat → Int) (w : World) :
    Calls Try.prog 78 #[.agg #[.int .i64 (A 0), .int .i64 (A 1), .int .i64 (A 2), .int .i64 (A 3)], .agg #[.int .i64 (B 0), .int .i64 (B 1), .int .i64 (B 2), .int .i64 (B 3)]] w fun en w' => en = .returned (.agg #[.int .i64 (mnF A B 0), .int .i64 (mnF A B 1), .int .i64 (mnF A B 2), .int .i64 (mnF A B 3)]) ∧ Below w.heap.size w w' := by
  have A0 := hid (show (((w.alloc (.cells #[.int .i64 (A 0), .int .i64 (A 1), .int .i64 (A 2), .int .i64 (A 3)] 40)).alloc (.cells #[.int .i64 (B 0), .int .i64 (B 1), .int .i64 (B 2), .int .i64 (B 3)] 40)).alloc (.cells #[.int .i64 0, .int .i64 0, .int .i64 0, .int .i64 0] 40)).heap[w.heap.size]? = some (.cells #[.int .i64 (A 0), .int .i64 (A 1), .int .i64 (A 2), .int .i64 (A 3)] 40) from heapA (heapA (heap_new w _)))
  have B0 := hid (show (((w.alloc (.cells #[.int .i64 (A 0), .int .i64 (A 1), .int .i64 (A 2), .int .i64 (A 3)] 40)).alloc (.cells #[.int .i64 (B 0), .int .i64 (B 1), .int .i64 (B 2), .int .i64 (B 3)] 40)).alloc (.cells #[.int .i64 0, .int .i64 0, .int .i64 0, .int .i64 0] 40)).heap[w.heap.size + 1]? = some (.cells #[.int .i64 (B 0), .int .i64 (B 1), .int .i64 (B 2), .int .i64 (B 3)] 40) from heapA (by simpa using heap_new (w.alloc (.cells #[.int .i64 (A 0), .int .i64 (A 1), .int .i64 (A 2), .int .i64 (A 3)] 40)) (.cells #[.int .i64 (B 0), .int .i64 (B 1), .int .i64 (B 2), .int .i64 (B 3)] 40)))
  have R0 := hid (show (((w.alloc (.cells #[.int .i64 (A 0), .int .i64 (A 1), .int .i64 (A 2), .int .i64 (A 3)] 40)).alloc (.cells #[.int .i64 (B 0), .int .i64 (B 1), .int .i64 (B 2), .int .i64 (B 3)] 40)).alloc (.cells #[.int .i64 0, .int .i64 0, .int .i64 0, .int .i64 0] 40)).heap[w.heap.size + 1 + 1]? = some (.cells #[.int .i64 0, .int .i64 0, .int .i64 0, .int .i64 0] 40) from by simpa using heap_new ((w.alloc (.cells #[.int .i64 (A 0), .int .i64 (A 1), .int .i64 (A 2), .int .i64 (A 3)] 40)).alloc (.cells #[.int .i64 (B 0), .int .i64 (B 1), .int .i64 (B 2), .int .i64 (B 3)] 40)) (.cells #[.int .i64 0, .int .i64 0, .int .i64 0, .int .i64 0] 40))
  have g0 := hid (show Below w.heap.size w (((w.alloc (.cells #[.int .i64 (A 0), .int .i64 (A 1), .int .i64 (A 2), .int .i64 (A 3)] 40)).alloc (.cells #[.int .i64 (B 0), .int .i64 (B 1), .int .i64 (B 2), .int .i64 (B 3)] 40)).alloc (.cells #[.int .i64 0, .int .i64 0, .int .i64 0, .int .i64 0] 40)) from by go_grown)
  have KE : Hid (∀ W1 : World, W1.heap[w.heap.size]? = some (.cells #[.int .i64 (A 0), .int .i64 (A 1), .int .i64 (A 2), .int .i64 (A 3)] 40 (0, 0)) → W1.heap[w.heap.size + 1]? = some (.cells #[.int .i64 (B 0), .int .i64 (B 1), .int .i64 (B 2), .int .i64 (B 3)] 40 (0, 0)) → Calls Try.prog 56 #[.func (.func 100) #[] #[.pointer (some ⟨w.heap.size, 0, none⟩), .pointer (some ⟨w.heap.size + 1, 0, none⟩)]] W1 fun e w' => e = .returned (.agg #[.int .i64 (mnF A B 0), .int .i64 (mnF A B 1), .int .i64 (mnF A B 2), .int .i64 (mnF A B 3)]) ∧ Below W1.heap.size W1 w') :=
    hid fun W1 h1 h2 => each32_any _ _ (mnF A B) W1 (hid fun i W hi hb => least1_any i w.heap.size (w.heap.size + 1) (A i) (B i) W hi ((cell_of (keep0 hb h1) i).trans (vec_at A i hi)) ((cell_of (keep0 hb h2) i).trans (vec_at B i hi)))
  generalize mnF A B = L at *
  go_enter Try.func78, Try.ntmps78
  go_wp2_with fail
  refine (KE.out _ A0.out B0.out).mono ?_
  rintro _ w4 ⟨rfl, hbb⟩
  have g4 := hid (below_step g0.out g0.out.size hbb)
  have R4 := hid (keep0 hbb R0.out)
  clear hbb A0 B0 R0 g0
  obtain ⟨b0, b1, b2, b3⟩ := four R4.out
  obtain ⟨f0, f1, f2, f3⟩ := fourF R4.out
  go_wp2_with fail
  exact bodyPost_ret (v := .agg #[.int .i64 (L 0), .int .i64 (L 1), .int .i64 (L 2), .int .i64 (L 3)]) (results_cell_row Try.results78 _ _ (w.heap.size + 1 + 1) 40 _ (0, 0) _ rfl (four_set _ _ _ _ R4.out) Try.underlying40 rfl (by kernel_rfl)) rfl ⟨rfl, four_below _ _ _ _ g4.out (by omega)⟩
/-- Is no place of the first above the second's? -/
def fitsB (A B : Nat → Int) : Bool := eq4 (A 0) (A 1) (A 2) (A 3) (mnF A B 0) (mnF A B 1) (mnF A B 2) (mnF A B 3)
theorem fits_any (A B : Nat → Int) (w : World) :
    Calls Try.prog 60 #[.agg #[.int .i64 (A 0), .int .i64 (A 1), .int .i64 (A 2), .int .i64 (A 3)], .agg #[.int .i64 (B 0), .int .i64 (B 1), .int .i64 (B 2), .int .i64 (B 3)]] w fun en w' => en = .returned (.bool (fitsB A B)) ∧ Below w.heap.size w w' := by
  have hR := hid (show fitsB A B = eq4 (A 0) (A 1) (A 2) (A 3) (mnF A B 0) (mnF A B 1) (mnF A B 2) (mnF A B 3) from rfl)
  have hE := eq_vec
  have A0 := hid (show ((w.alloc (.cells #[.int .i64 (A 0), .int .i64 (A 1), .int .i64 (A 2), .int .i64 (A 3)] 40)).alloc (.cells #[.int .i64 (B 0), .int .i64 (B 1), .int .i64 (B 2), .int .i64 (B 3)] 40)).heap[w.heap.size]? = some (.cells #[.int .i64 (A 0), .int .i64 (A 1), .int .i64 (A 2), .int .i64 (A 3)] 40) from heapA (heap_new w _))
  have B0 := hid (show ((w.alloc (.cells #[.int .i64 (A 0), .int .i64 (A 1), .int .i64 (A 2), .int .i64 (A 3)] 40)).alloc (.cells #[.int .i64 (B 0), .int .i64 (B 1), .int .i64 (B 2), .int .i64 (B 3)] 40)).heap[w.heap.size + 1]? = some (.cells #[.int .i64 (B 0), .int .i64 (B 1), .int .i64 (B 2), .int .i64 (B 3)] 40) from by simpa using heap_new (w.alloc (.cells #[.int .i64 (A 0), .int .i64 (A 1), .int .i64 (A 2), .int .i64 (A 3)] 40)) (.cells #[.int .i64 (B 0), .int .i64 (B 1), .int .i64 (B 2), .int .i64 (B 3)] 40))
  have g0 := hid (show Below w.heap.size w ((w.alloc (.cells #[.int .i64 (A 0), .int .i64 (A 1), .int .i64 (A 2), .int .i64 (A 3)] 40)).alloc (.cells #[.int .i64 (B 0), .int .i64 (B 1), .int .i64 (B 2), .int .i64 (B 3)] 40)) from by go_grown)
  have K := hid (least_any A B)
  generalize mnF A B = L at *
  obtain ⟨a0, a1, a2, a3⟩ := four A0.out
  obtain ⟨c0, c1, c2, c3⟩ := four B0.out
  go_enter Try.func60, Try.ntmps60
  go_wp2_with fail
  go_region_held3 (fun w' => (w'.cell? ⟨w.heap.size, 0, none⟩ = some (.int .i64 (A 0)) ∧ w'.cell? ⟨w.heap.size, 1, none⟩ = some (.int .i64 (A 1)) ∧ w'.cell? ⟨w.heap.size, 2, none⟩ = some (.int .i64 (A 2)) ∧ w'.cell? ⟨w.heap.size, 3, none⟩ = some (.int .i64 (A 3))) ∧ w'.cell? ⟨w.heap.size + 1, 0, none⟩ = some (.int .i64 (B 0)) ∧ w'.cell? ⟨w.heap.size + 1, 1, none⟩ = some (.int .i64 (B 1)) ∧ w'.cell? ⟨w.heap.size + 1, 2, none⟩ = some (.int .i64 (B 2)) ∧ w'.cell? ⟨w.heap.size + 1, 3, none⟩ = some (.int .i64 (B 3))) (first | exact ⟨⟨a0, a1, a2, a3⟩, c0, c1, c2, c3⟩ | exact ⟨⟨b0, b1, b2, b3⟩, e0, e1, e2, e3⟩ | go_keep) (first | (go_at_call 78; refine (K.out _).mono ?_; rintro _ w2 ⟨rfl, hbb⟩; have g2 := hid (below_step g0.out g0.out.size (unD hbb)); have A2 := hid (keep0 (unD hbb) A0.out); have B2 := hid (keep0 (unD hbb) B0.out); obtain ⟨b0, b1, b2, b3⟩ := four A2.out; obtain ⟨e0, e1, e2, e3⟩ := four B2.out; clear hbb))
  all_goals go_wp2
  all_goals go_returns
  all_goals exact ⟨ret_bool hR.out.symm, g2.out⟩
end Go.Proofs.Ythkofnahimlijaa
