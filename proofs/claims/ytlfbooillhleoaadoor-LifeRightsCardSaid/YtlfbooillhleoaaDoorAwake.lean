/- The statements' own example: true. Condition: the tables stand as the program's text lays them. -/
import Derived.Test.YtlfbooillhleoaaDoorNextAny
import Derived.Test.YtlfbooillhleoaaDoorNew
import Derived.Deep.RegionWith
import Derived.Outline
import Derived.Test.YtlfbooillhleoaaDoorNew
namespace Go.Proofs.YtlfbooillhleoaaDoor
open Go Go.RowKit
/-- The life behind k signs of the example. -/
def exL (k : Nat) : LR :=
  match k with
  | 0 => ⟨1, 0, 1, false, false, 0⟩ | 1 => ⟨3, 1, 1, false, false, 0⟩ | 2 => ⟨4, 1, 1, false, false, 0⟩ | 3 => ⟨1, 1, 0, false, false, 0⟩ | 4 => ⟨3, 2, 0, false, false, 0⟩ | 5 => ⟨4, 2, 0, false, false, 0⟩ | _ => ⟨7, 2, 0, false, false, 0⟩
def exS (k : Nat) : Int := match k with | 0 => 3 | 1 => 5 | 2 => 8 | 3 => 3 | 4 => 5 | _ => 8
theorem ex_next (k : Nat) (hk : k < 6) : nextF (exL k).s (exL k).a (exL k).l (exL k).b (exL k).t (exS k) = exL (k + 1) := by
  rcases (by omega : k = 0 ∨ k = 1 ∨ k = 2 ∨ k = 3 ∨ k = 4 ∨ k = 5) with rfl | rfl | rfl | rfl | rfl | rfl <;> rfl
theorem ex_facts {wr w2 : World} {B k : Nat} {s a l g : Int} {b t : Bool} {cs : Array Value} (hl : wr.heap[B + 1 + 1]? = some (.cells #[.int .i64 s, .int .i64 a, .int .i64 l, .bool b, .bool t] 24 (0, 0))) (hg : wr.heap[B + 1 + 1 + 1]? = some (.cells cs 25 (0, 0)))
    (hc : wr.cell? ⟨B + 1 + 1 + 1, k, none⟩ = some (.int .i64 g)) (hz : B + 1 + 1 + 1 + 1 ≤ wr.heap.size) (hb : Below wr.drew.heap.size wr.drew w2) :
    w2.cell? ⟨B + 1 + 1, 0, none⟩ = some (.int .i64 s) ∧ w2.cell? ⟨B + 1 + 1, 1, none⟩ = some (.int .i64 a) ∧ w2.cell? ⟨B + 1 + 1, 2, none⟩ = some (.int .i64 l) ∧ w2.cell? ⟨B + 1 + 1, 3, none⟩ = some (.bool b) ∧ w2.cell? ⟨B + 1 + 1, 4, none⟩ = some (.bool t) ∧
    w2.cell? ⟨B + 1 + 1 + 1, k, none⟩ = some (.int .i64 g) ∧ w2.frozen? ⟨B + 1 + 1, 0, none⟩ = false ∧ w2.frozen? ⟨B + 1 + 1, 1, none⟩ = false ∧ w2.frozen? ⟨B + 1 + 1, 2, none⟩ = false ∧ w2.frozen? ⟨B + 1 + 1, 3, none⟩ = false ∧ w2.frozen? ⟨B + 1 + 1, 4, none⟩ = false ∧
    (w2.heap[B + 1 + 1]? = some (.cells #[.int .i64 s, .int .i64 a, .int .i64 l, .bool b, .bool t] 24 (0, 0)) ∧ w2.heap[B + 1 + 1 + 1]? = some (.cells cs 25 (0, 0)) ∧ B + 1 + 1 + 1 + 1 ≤ w2.heap.size) := by
  have h2 : w2.heap[B + 1 + 1]? = some (.cells #[.int .i64 s, .int .i64 a, .int .i64 l, .bool b, .bool t] 24 (0, 0)) := (hb.block _ (by show _ < wr.heap.size; omega)).trans hl
  refine ⟨?_, ?_, ?_, ?_, ?_, ?_, free_of h2 0, free_of h2 1, free_of h2 2, free_of h2 3, free_of h2 4, h2, (hb.block _ (by show _ < wr.heap.size; omega)).trans hg, Nat.le_trans hz hb.size⟩
  · rw [cell_of h2 0]; rfl
  · rw [cell_of h2 1]; rfl
  · rw [cell_of h2 2]; rfl
  · rw [cell_of h2 3]; rfl
  · rw [cell_of h2 4]; rfl
  · rw [hb.cell (p := ⟨B + 1 + 1 + 1, k, none⟩) (by show B + 1 + 1 + 1 < wr.heap.size; omega)]; exact hc
theorem five_set {w2 : World} {B : Nat} {T : TypeId} {a0 a1 a2 a3 a4 : Value} (v0 v1 v2 v3 v4 : Value) (h : w2.heap[B]? = some (.cells #[a0, a1, a2, a3, a4] T (0, 0))) :
    (((((w2.setCell ⟨B, 0, none⟩ v0).setCell ⟨B, 1, none⟩ v1).setCell ⟨B, 2, none⟩ v2).setCell ⟨B, 3, none⟩ v3).setCell ⟨B, 4, none⟩ v4).heap[B]? = some (.cells #[v0, v1, v2, v3, v4] T (0, 0)) := by
  have h0 := heap_setCell_same w2 B 0 _ T v0 h
  have h1 := heap_setCell_same _ B 1 _ T v1 h0
  have h2 := heap_setCell_same _ B 2 _ T v2 h1
  have h3 := heap_setCell_same _ B 3 _ T v3 h2
  have h4 := heap_setCell_same _ B 4 _ T v4 h3
  simpa using h4
theorem five_other {w2 : World} {B k : Nat} (v0 v1 v2 v3 v4 : Value) (h : k ≠ B) :
    (((((w2.setCell ⟨B, 0, none⟩ v0).setCell ⟨B, 1, none⟩ v1).setCell ⟨B, 2, none⟩ v2).setCell ⟨B, 3, none⟩ v3).setCell ⟨B, 4, none⟩ v4).heap[k]? = w2.heap[k]? := by
  rw [heap_setCell_other _ _ _ _ h, heap_setCell_other _ _ _ _ h, heap_setCell_other _ _ _ _ h, heap_setCell_other _ _ _ _ h, heap_setCell_other _ _ _ _ h]
set_option maxHeartbeats 1000000 in
theorem awake_any (w : World) (hT : Tab w) : Calls Tryd.prog 9 #[] w fun e w' => e = .returned (.bool true) ∧ Below w.heap.size w w' := by
  go_enter Tryd.func9, Tryd.ntmps9
  go_wp2_with (first | (go_at_call 20; refine (new_ok _ _ _ (by omega) (by omega)).mono ?_; rintro e w1 ⟨rfl, rfl⟩))
  go_loopw [2, 4] (fun e i wr => ∃ k : Nat, k ≤ 6 ∧ e = .int .i64 0 ∧ i = .int .i64 k ∧ Below w.heap.size w wr ∧ w.heap.size + 1 + 1 + 1 + 1 ≤ wr.heap.size ∧
      wr.heap[w.heap.size + 1 + 1]? = some (.cells #[.int .i64 (exL k).s, .int .i64 (exL k).a, .int .i64 (exL k).l, .bool (exL k).b, .bool (exL k).t] 24 (0, 0)) ∧
      wr.heap[w.heap.size + 1 + 1 + 1]? = some (.cells #[.int .i64 3, .int .i64 5, .int .i64 8, .int .i64 3, .int .i64 5, .int .i64 8] 25 (0, 0))) (fun _ i _ => 6 - (intOf i).toNat)
  case atStart => exact ⟨0, by omega, rfl, rfl, by go_grown, by simp, by
      rw [Below.heap_alloc _ _ _ (by simp)]
      have := heap_new ((w.alloc (.cells #[.int .i64 1, .int .i64 0, .int .i64 1, .bool false, .bool false] 24)).alloc (.cells #[.int .i64 1, .int .i64 0, .int .i64 1, .bool false, .bool false] 24)) (.cells #[.int .i64 1, .int .i64 0, .int .i64 1, .bool false, .bool false] 24)
      simpa [exL] using this, by
      have := heap_new (((w.alloc (.cells #[.int .i64 1, .int .i64 0, .int .i64 1, .bool false, .bool false] 24)).alloc (.cells #[.int .i64 1, .int .i64 0, .int .i64 1, .bool false, .bool false] 24)).alloc (.cells #[.int .i64 1, .int .i64 0, .int .i64 1, .bool false, .bool false] 24)) (.cells #[.int .i64 3, .int .i64 5, .int .i64 8, .int .i64 3, .int .i64 5, .int .i64 8] 25)
      simpa using this⟩
  case round =>
    obtain ⟨k, hk, rfl, rfl, hb, hz, hl, hs⟩ := hrel
    by_cases h6 : k < 6
    · have cs : wr.cell? ⟨w.heap.size + 1 + 1 + 1, k, none⟩ = some (.int .i64 (exS k)) := by
        rw [cell_of hs k]
        rcases (by omega : k = 0 ∨ k = 1 ∨ k = 2 ∨ k = 3 ∨ k = 4 ∨ k = 5) with rfl | rfl | rfl | rfl | rfl | rfl <;> rfl
      have l0 : wr.cell? ⟨w.heap.size + 1 + 1, 0, none⟩ = some (.int .i64 (exL k).s) := by rw [cell_of hl 0]; rfl
      have l1 : wr.cell? ⟨w.heap.size + 1 + 1, 1, none⟩ = some (.int .i64 (exL k).a) := by rw [cell_of hl 1]; rfl
      have l2 : wr.cell? ⟨w.heap.size + 1 + 1, 2, none⟩ = some (.int .i64 (exL k).l) := by rw [cell_of hl 2]; rfl
      have l3 : wr.cell? ⟨w.heap.size + 1 + 1, 3, none⟩ = some (.bool (exL k).b) := by rw [cell_of hl 3]; rfl
      have l4 : wr.cell? ⟨w.heap.size + 1 + 1, 4, none⟩ = some (.bool (exL k).t) := by rw [cell_of hl 4]; rfl
      have hK : ∀ W, Below w.heap.size w W → Calls Tryd.prog 10 #[.agg #[.int .i64 (exL k).s, .int .i64 (exL k).a, .int .i64 (exL k).l, .bool (exL k).b, .bool (exL k).t], .int .i64 (exS k)] W fun e w' => e = .returned (.tuple #[.agg #[.int .i64 (exL (k + 1)).s, .int .i64 (exL (k + 1)).a, .int .i64 (exL (k + 1)).l, .bool (exL (k + 1)).b, .bool (exL (k + 1)).t], .int .i64 0]) ∧ Below W.heap.size W w' := fun W hW => by
        have := next_any (exL k).s (exL k).a (exL k).l (exL k).b (exL k).t (exS k) W (hT.below hW)
        rw [ex_next k h6] at this
        have he : (exL (k + 1)).e = 0 := by
          rcases (by omega : k = 0 ∨ k = 1 ∨ k = 2 ∨ k = 3 ∨ k = 4 ∨ k = 5) with rfl | rfl | rfl | rfl | rfl | rfl <;> rfl
        rw [rv, he] at this
        exact this
      have HK := hid hK
      have HL := hid hl
      have HS := hid hs
      have HB := hid hb
      clear hl hs hb hK
      go_wp2_with fail
      go_region_with (go_at_call 10; refine (HK.out _ ?_).mono ?_; exact HB.out.drew; rintro e w2 ⟨rfl, hb2⟩; obtain ⟨m0, m1, m2, m3, m4, m5, f0, f1, f2, f3, f4, hx2⟩ := ex_facts HL.out HS.out cs hz hb2; have HX2 := hid hx2; have HB2 := hid (below_step HB.out.drew (by have := HB.out.size; exact this) hb2); clear hb2 hx2)
      all_goals
        go_wp2_with fail
        go_roundw
        case rel => exact ⟨k + 1, by omega, rfl, by go_num, by have hb := HB2.out; go_grown, by have := HX2.out.2.2; go_size, five_set _ _ _ _ _ HX2.out.1, (five_other _ _ _ _ _ (by omega)).trans HX2.out.2.1⟩
        case measure => simp [intOf]; omega
    · obtain rfl : k = 6 := by omega
      have l0 : wr.cell? ⟨w.heap.size + 1 + 1, 0, none⟩ = some (.int .i64 7) := by rw [cell_of hl 0]; rfl
      have l1 : wr.cell? ⟨w.heap.size + 1 + 1, 1, none⟩ = some (.int .i64 2) := by rw [cell_of hl 1]; rfl
      have l2 : wr.cell? ⟨w.heap.size + 1 + 1, 2, none⟩ = some (.int .i64 0) := by rw [cell_of hl 2]; rfl
      have l3 : wr.cell? ⟨w.heap.size + 1 + 1, 3, none⟩ = some (.bool false) := by rw [cell_of hl 3]; rfl
      have l4 : wr.cell? ⟨w.heap.size + 1 + 1, 4, none⟩ = some (.bool false) := by rw [cell_of hl 4]; rfl
      have k15 : ∀ W, Calls Tryd.prog 15 #[.int .i64 7] W fun e w' => e = .returned (.bool true) ∧ W = w' := fun W => over_any 7 W
      have k19 : ∀ W, Below w.heap.size w W → Calls Tryd.prog 19 #[.int .i64 7] W fun e w' => e = .returned (.string ⟨#[102, 97, 105, 108, 101, 100]⟩) ∧ W = w' := fun W hW => name_in 7 W (hT.below hW) (by omega) (by omega)
      have K15 := hid k15
      have K19 := hid k19
      have HB := hid hb
      clear hl hs hb k15 k19 hT hk h6 hz
      go_wp2_with (first | (go_at_call 15; refine (K15.out _).mono ?_; rintro e w' ⟨rfl, rfl⟩) | (go_at_call 19; refine (K19.out _ HB.out).mono ?_; rintro e w' ⟨rfl, rfl⟩))
      all_goals go_returns
      all_goals exact ⟨rfl, HB.out⟩
end Go.Proofs.YtlfbooillhleoaaDoor
