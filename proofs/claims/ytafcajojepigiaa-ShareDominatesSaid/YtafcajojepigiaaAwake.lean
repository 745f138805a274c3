/- The statements' own example: true. Condition: none. -/
import Derived.Test.YtafcajojepigiaaDom
import Derived.Test.YtafcajojepigiaaLeast
namespace Go.Proofs.Ytafcajojepigiaa
open Go Go.RowKit
def exH : Nat → Int := fun i => match i with | 0 => 2 | 1 => 1 | _ => 0
def exG : Nat → Int := fun i => match i with | 0 => 9 | 1 => 3 | 2 => 0 | _ => 5
def exS : Nat → Int × Int := fun i => match i with | 0 => (1, 2) | _ => (1, 3)
theorem KCmp : Hid (∀ a b c d W, a ≤ 9223372036854775807 → b ≤ 9223372036854775807 → c ≤ 9223372036854775807 → d ≤ 9223372036854775807 → Calls Try.prog 11 #[.agg #[.int .i64 a, .int .i64 b], .agg #[.int .i64 c, .int .i64 d]] W fun e w' => e = .returned (.int .i64 (cmpS a b c d)) ∧ Below W.heap.size W w') :=
  hid fun a b c d W ha hb hc hd => compare_any a b c d W ha hb hc hd
theorem ex_dom (w : World) : Calls Try.prog 13 #[.agg #[.int .i64 2, .int .i64 1, .int .i64 0, .int .i64 0], .agg #[.int .i64 9, .int .i64 3, .int .i64 0, .int .i64 5]] w fun e w' => e = .returned (.tuple #[.agg #[.int .i64 1, .int .i64 3], .int .i64 1]) ∧ Below w.heap.size w w' := by
  have h := dom_any exH exG w (fun i hi => by rcases (by omega : i = 0 ∨ i = 1 ∨ i = 2 ∨ i = 3) with rfl | rfl | rfl | rfl <;> decide) (fun i hi => by rcases (by omega : i = 0 ∨ i = 1 ∨ i = 2 ∨ i = 3) with rfl | rfl | rfl | rfl <;> decide) KCmp
  have e : domF exH exG 4 = 1 := by decide
  rw [e] at h
  exact h
theorem ex_cmp (w : World) : Calls Try.prog 11 #[.agg #[.int .i64 1, .int .i64 3], .agg #[.int .i64 333, .int .i64 1000]] w fun e w' => e = .returned (.int .i64 1) ∧ Below w.heap.size w w' := by
  have h := compare_any 1 3 333 1000 w (by decide) (by decide) (by decide) (by decide)
  have e : cmpS 1 3 333 1000 = 1 := by decide
  rw [e] at h
  exact h
theorem ex_least (w : World) : Calls Try.prog 20 #[.slice (some ⟨w.heap.size, 0, none⟩) 2 2] (w.alloc (.cells #[.int .i64 1, .int .i64 2, .int .i64 1, .int .i64 3] 23)) fun e w' => e = .returned (.int .i64 1) ∧ Below (w.alloc (.cells #[.int .i64 1, .int .i64 2, .int .i64 1, .int .i64 3] 23)).heap.size (w.alloc (.cells #[.int .i64 1, .int .i64 2, .int .i64 1, .int .i64 3] 23)) w' := by
  have hc : ∀ j, (w.alloc (.cells #[.int .i64 1, .int .i64 2, .int .i64 1, .int .i64 3] 23)).cell? ⟨w.heap.size, j, none⟩ = (#[.int .i64 1, .int .i64 2, .int .i64 1, .int .i64 3] : Array Value)[j]? := fun j => cell_of (heap_new w _) j
  have h := least_any exS w.heap.size 0 2 2 (w.alloc (.cells #[.int .i64 1, .int .i64 2, .int .i64 1, .int .i64 3] 23)) (by decide) (by simp) (fun i hi => by
    rcases (by omega : i = 0 ∨ i = 1) with rfl | rfl
    · exact ⟨(hc _).trans rfl, (hc _).trans rfl⟩
    · exact ⟨(hc _).trans rfl, (hc _).trans rfl⟩) (fun i hi => by rcases (by omega : i = 0 ∨ i = 1) with rfl | rfl <;> decide) KCmp
  have e : leF exS 2 = 1 := by decide
  rw [e] at h
  exact h
theorem awake_any (w : World) : Calls Try.prog 10 #[] w fun e w' => e = .returned (.bool true) ∧ Below w.heap.size w w' := by
  go_enter Try.func10, Try.ntmps10
  go_wp2_with fail
  refine (ex_dom _).mono ?_
  rintro e w1 ⟨rfl, hb⟩
  have hg1 := hid hb
  clear hb
  go_wp2_with fail
  refine (ex_cmp _).mono ?_
  rintro e w2 ⟨rfl, hb⟩
  have X2 := newA hb
  obtain ⟨c0, c1⟩ := two X2
  have z := lt_of X2
  have hg2 := hid (below_step (hg1.out.alloc hg1.out.size _) (by have := hg1.out.size; go_size) hb)
  clear hb X2
  go_wp2_with fail
  refine (ex_least _).mono ?_
  rintro e w3 ⟨rfl, hb⟩
  have hg3 := hid (below_step (hg2.out.alloc hg2.out.size _) (by have := hg2.out.size; go_size) hb)
  clear hb
  go_wp2_with fail
  all_goals go_returns
  all_goals exact ⟨rfl, hg3.out⟩
end Go.Proofs.Ytafcajojepigiaa
