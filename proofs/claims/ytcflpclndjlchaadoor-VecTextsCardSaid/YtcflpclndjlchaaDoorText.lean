/- vec.Text, called at any amount: the four numerals with commas between. Condition: the numerals' own contract. -/
import Derived.Test.YtcflpclndjlchaaDoorEach
import Derived.Test.YtcflpclndjlchaaDoorShelf
namespace Go.Proofs.YtcflpclndjlchaaDoor
open Go Go.RowKit
def sarr (S : Nat → ByteArray) (k i : Nat) : ByteArray := if i < k then S i else ByteArray.empty
def scells (S : Nat → ByteArray) (k : Nat) : Array Value := #[.string (sarr S k 0), .string (sarr S k 1), .string (sarr S k 2), .string (sarr S k 3)]
theorem scells_zero (S : Nat → ByteArray) : scells S 0 = #[.string ByteArray.empty, .string ByteArray.empty, .string ByteArray.empty, .string ByteArray.empty] := rfl
theorem scells_step (S : Nat → ByteArray) (k : Nat) (hk : k < 4) : (scells S k).setIfInBounds k (.string (S k)) = scells S (k + 1) := by
  rcases (by omega : k = 0 ∨ k = 1 ∨ k = 2 ∨ k = 3) with rfl | rfl | rfl | rfl <;> rfl
theorem scells_at (S : Nat → ByteArray) (k i : Nat) (hi : i < 4) : (scells S k)[i]? = some (.string (sarr S k i)) := by
  rcases (by omega : i = 0 ∨ i = 1 ∨ i = 2 ∨ i = 3) with rfl | rfl | rfl | rfl <;> rfl
theorem sarr_set {w : World} {B k : Nat} {T : TypeId} {S : Nat → ByteArray} (hk : k < 4) (h : w.heap[B]? = some (.cells (scells S k) T (0, 0))) : (w.setCell ⟨B, k, none⟩ (.string (S k))).heap[B]? = some (.cells (scells S (k + 1)) T (0, 0)) := by
  have h0 := heap_setCell_same w B k _ T (.string (S k)) h
  rw [scells_step S k hk] at h0
  exact h0
/-- The text of four numerals. -/
def joinS (S : Nat → ByteArray) : List UInt8 := Lib.join ([S 0, S 1, S 2, S 3].map (·.data.toList)) [44]
set_option maxHeartbeats 1000000 in
theorem text_any (N : Nat → Int) (S : Nat → ByteArray) (w : World) (KI : Hid (∀ (i : Nat) (W : World), i < 4 → Below w.heap.size w W → Calls Tryd.prog 38 #[.int .i64 (N i)] W fun e w' => e = .returned (.string (S i)) ∧ Below W.heap.size W w')) (hlen : (joinS S).length ≤ 140737488355328) :
    Calls Tryd.prog 24 #[.agg #[.int .i64 (N 0), .int .i64 (N 1), .int .i64 (N 2), .int .i64 (N 3)]] w fun e w' => e = .returned (.string ⟨(joinS S).toArray⟩) ∧ Below w.heap.size w w' := by
  have A0 := hid (show ((w.alloc (.cells #[.int .i64 (N 0), .int .i64 (N 1), .int .i64 (N 2), .int .i64 (N 3)] 23)).alloc (.cells (scells S 0) 46)).heap[w.heap.size]? = some (.cells #[.int .i64 (N 0), .int .i64 (N 1), .int .i64 (N 2), .int .i64 (N 3)] 23) from heapA (heap_new w _))
  have B0 := hid (show ((w.alloc (.cells #[.int .i64 (N 0), .int .i64 (N 1), .int .i64 (N 2), .int .i64 (N 3)] 23)).alloc (.cells (scells S 0) 46)).heap[w.heap.size + 1]? = some (.cells (scells S 0) 46) from by simpa using heap_new (w.alloc (.cells #[.int .i64 (N 0), .int .i64 (N 1), .int .i64 (N 2), .int .i64 (N 3)] 23)) (.cells (scells S 0) 46))
  have g0 := hid (show Below w.heap.size w ((w.alloc (.cells #[.int .i64 (N 0), .int .i64 (N 1), .int .i64 (N 2), .int .i64 (N 3)] 23)).alloc (.cells (scells S 0) 46)) from by go_grown)
  have KJ : Hid (∀ W : World, W.heap[w.heap.size + 1]? = some (.cells (scells S 4) 46 (0, 0)) → Calls Tryd.prog 39 #[.slice (some ⟨w.heap.size + 1, 0, none⟩) 4 4, .string ⟨#[44]⟩] W fun e w' => e = .returned (.string ⟨(joinS S).toArray⟩) ∧ Below W.heap.size W w') :=
    hid fun W h => Tryd.strings_Join (w.heap.size + 1) 0 4 [S 0, S 1, S 2, S 3] ⟨#[44]⟩ W (fun j x hj => by
      have hj4 : j < 4 := by
        have := (List.getElem?_eq_some_iff.1 hj).1
        simpa using this
      rw [cell_of h, Nat.zero_add, scells_at S 4 j hj4]
      rcases (by omega : j = 0 ∨ j = 1 ∨ j = 2 ∨ j = 3) with rfl | rfl | rfl | rfl <;> (obtain rfl := Option.some.inj hj; rfl)) (lt_of h) (by simp) (by simp) hlen
  clear hlen
  go_enter Tryd.func24, Tryd.ntmps24
  go_wp2_with fail
  go_loopw [5] (fun i wr => ∃ k : Nat, k ≤ 4 ∧ i = .int .i64 k ∧ Below w.heap.size w wr ∧ wr.heap[w.heap.size]? = some (.cells #[.int .i64 (N 0), .int .i64 (N 1), .int .i64 (N 2), .int .i64 (N 3)] 23 (0, 0)) ∧ wr.heap[w.heap.size + 1]? = some (.cells (scells S k) 46 (0, 0))) (fun i _ => 4 - (intOf i).toNat)
  case atStart => exact ⟨0, by omega, rfl, g0.out, A0.out, B0.out⟩
  case round =>
    obtain ⟨k, hk, rfl, hg, hA, hV⟩ := hrel
    have HG := hid hg
    have HA := hid hA
    have HV := hid hV
    clear hg hA hV A0 B0 g0
    by_cases h4 : k < 4
    · have h4' : (k : Int) < 4 := by omega
      have cA := (cell_of HA.out k).trans (vec_at N k h4)
      go_wp2_with fail
      refine (KI.out k _ h4 HG.out).mono ?_
      rintro _ w2 ⟨rfl, hbb⟩
      have G2 := hid (below_step HG.out HG.out.size hbb)
      have A2 := hid (keep0 hbb HA.out)
      have V2 := hid (keep0 hbb HV.out)
      clear hbb cA
      have cV : w2.cell? ⟨w.heap.size + 1, k, none⟩ = some (.string (sarr S k k)) := (cell_of V2.out k).trans (scells_at S k k h4)
      have fV := free_of V2.out k
      go_wp2_with fail
      go_roundw
      case rel => exact ⟨k + 1, by omega, by go_num, G2.out.setCell (p := ⟨w.heap.size + 1, k, none⟩) (by simp only; omega) _, (heap_setCell_other _ _ _ _ (by simp only; omega)).trans A2.out, sarr_set h4 V2.out⟩
      case measure => simp [intOf]; omega
    · obtain rfl : k = 4 := by omega
      have zV := lt_of HV.out
      go_wp2_with fail
      refine (KJ.out _ HV.out).mono ?_
      rintro _ w2 ⟨rfl, hbb⟩
      have G2 := hid (below_step HG.out HG.out.size hbb)
      clear hbb
      go_wp2_with fail
      all_goals go_returns
      all_goals exact ⟨rfl, G2.out⟩
end Go.Proofs.YtcflpclndjlchaaDoor
