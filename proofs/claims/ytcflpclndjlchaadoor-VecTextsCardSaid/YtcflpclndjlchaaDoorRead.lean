/- vec.Read, called at any text: its amount, or the error. Conditions: a text under 4 GB; the library's one number stands. -/
import Derived.Test.YtcflpclndjlchaaDoorSums
import Derived.Test.YtcflpclndjlchaaDoorNum
import Derived.Test.YtcflpclndjlchaaDoorShelf
namespace Go.Proofs.YtcflpclndjlchaaDoor
open Go Go.RowKit

theorem each34_any (p : Value) (F : Nat → Int) (w : World) (KF : Hid (∀ (i : Nat) (W : World), i < 4 → Below w.heap.size w W → Calls Tryd.prog 34 #[.int .i64 i, p] W fun e w' => e = .returned (.int .i64 (F i)) ∧ Below W.heap.size W w')) :
    Calls Tryd.prog 27 #[.func (.func 34) #[] #[p]] w fun e w' => e = .returned (.agg #[.int .i64 (F 0), .int .i64 (F 1), .int .i64 (F 2), .int .i64 (F 3)]) ∧ Below w.heap.size w w' := by
  go_enter Tryd.func27, Tryd.ntmps27
  go_wp2_with fail
  go_loopw [5] (fun i wr => ∃ k : Nat, k ≤ 4 ∧ i = .int .i64 k ∧ Below w.heap.size w wr ∧ wr.heap[w.heap.size]? = some (.cells #[.int .i64 0, .int .i64 0, .int .i64 0, .int .i64 0] 23 (0, 0)) ∧ wr.heap[w.heap.size + 1]? = some (.cells (gcells F k) 23 (0, 0))) (fun i _ => 4 - (intOf i).toNat)
  case atStart =>
    refine ⟨0, by omega, rfl, by go_grown, heapA (heap_new w _), ?_⟩
    rw [gcells_zero]
    simpa using heap_new (w.alloc (.cells #[.int .i64 0, .int .i64 0, .int .i64 0, .int .i64 0] 23)) (.cells #[.int .i64 0, .int .i64 0, .int .i64 0, .int .i64 0] 23)
  case round =>
    obtain ⟨k, hk, rfl, hg, hR, hV⟩ := hrel
    have HG := hid hg
    have HR := hid hR
    have HV := hid hV
    clear hg hR hV
    by_cases h4 : k < 4
    · have h4' : (k : Int) < 4 := by omega
      go_wp2_with fail
      refine (KF.out k _ h4 HG.out).mono ?_
      rintro _ w2 ⟨rfl, hbb⟩
      have G2 := hid (below_step HG.out HG.out.size hbb)
      have R2 := hid (keep0 hbb HR.out)
      have V2 := hid (keep0 hbb HV.out)
      clear hbb
      have cV : w2.cell? ⟨w.heap.size + 1, k, none⟩ = some (.int .i64 (garr F k k)) := (cell_of V2.out k).trans (vec_at (garr F k) k h4)
      have fV := free_of V2.out k
      go_wp2_with fail
      go_roundw
      case rel => exact ⟨k + 1, by omega, by go_num, G2.out.setCell (p := ⟨w.heap.size + 1, k, none⟩) (by simp only; omega) _, (heap_setCell_other _ _ _ _ (by simp only; omega)).trans R2.out, arr_set h4 V2.out⟩
      case measure => simp [intOf]; omega
    · obtain rfl : k = 4 := by omega
      have HV4 := hid (show wr.heap[w.heap.size + 1]? = some (.cells #[.int .i64 (F 0), .int .i64 (F 1), .int .i64 (F 2), .int .i64 (F 3)] 23 (0, 0)) from HV.out)
      obtain ⟨a0, a1, a2, a3⟩ := four HV4.out
      obtain ⟨b0, b1, b2, b3⟩ := four HR.out
      obtain ⟨f0, f1, f2, f3⟩ := fourF HR.out
      go_wp2_with fail
      exact bodyPost_ret (v := .agg #[.int .i64 (F 0), .int .i64 (F 1), .int .i64 (F 2), .int .i64 (F 3)]) (results_cell_row Tryd.results27 _ _ w.heap.size 23 _ (0, 0) _ rfl (four_set _ _ _ _ HR.out) Tryd.underlying23 rfl (by kernel_rfl)) rfl ⟨rfl, four_below _ _ _ _ HG.out (Nat.le_refl _)⟩

/-- A text's parts between commas, at most five. -/
def wordsOf (s : ByteArray) : List ByteArray := Lib.splitB ⟨#[44]⟩ 0 (min 5 (s.size + 1) - 1) s
def wordAt (ws : List ByteArray) (i : Nat) : ByteArray := ws.getD i ByteArray.empty
def readN (ws : List ByteArray) (i : Nat) : Int := numF (wordAt ws i).size (byteAt (wordAt ws i))
def readF (ws : List ByteArray) : (Nat → Int) × Int := if ws.length = 4 then withF (readN ws) 11 else (fun _ => 0, 11)
theorem cellsOf_at (ws : List ByteArray) (N i : Nat) (hi : i < ws.length) : (Lib.cellsOf ws N)[i]? = some (.string (wordAt ws i)) := by
  unfold Lib.cellsOf wordAt
  rw [List.getElem?_toArray, List.getElem?_append_left (by simpa using hi), List.getElem?_map, List.getD_eq_getElem?_getD, List.getElem?_eq_getElem hi]
  rfl
theorem read1_any (i B b c : Nat) (x : ByteArray) (w : World) (hi : i < 4) (h4 : w.cell? ⟨B, 0, none⟩ = some (.slice (some ⟨b, 0, none⟩) 4 c)) (hx : w.cell? ⟨b, i, none⟩ = some (.string x)) :
    Calls Tryd.prog 34 #[.int .i64 i, .pointer (some ⟨B, 0, none⟩)] w fun e w' => e = .returned (.int .i64 (numF x.size (byteAt x))) ∧ Below w.heap.size w w' := by
  have hi' : (i : Int) < 4 := by omega
  have z1 := block_lt_of_cell h4
  have z2 := block_lt_of_cell hx
  simp only at z1 z2
  have K := hid (number_any x)
  generalize numF x.size (byteAt x) = r at *
  go_enter Tryd.func34, Tryd.ntmps34
  go_wp2_with fail
  refine (K.out _).mono ?_
  rintro _ w2 ⟨rfl, hbb⟩
  have g2 := hid hbb
  clear hbb
  go_wp2_with fail
  all_goals go_returns
  all_goals exact ⟨rfl, g2.out⟩
set_option maxHeartbeats 1000000 in
theorem read_any (s : ByteArray) (w : World) (hs : s.size < 4294967281) (hm : ∃ m : Int, w.cell? ⟨0, 0, none⟩ = some (.int .i64 m)) :
    Calls Tryd.prog 22 #[.string s] w fun en w' => en = .returned (.tuple #[.agg #[.int .i64 ((readF (wordsOf s)).1 0), .int .i64 ((readF (wordsOf s)).1 1), .int .i64 ((readF (wordsOf s)).1 2), .int .i64 ((readF (wordsOf s)).1 3)], .int .i64 (readF (wordsOf s)).2]) ∧ Below w.heap.size w w' := by
  obtain ⟨m, hm⟩ := hm
  have z0 := block_lt_of_cell hm
  have hm1 : (w.alloc (.cells #[.int .i64 0, .int .i64 0, .int .i64 0, .int .i64 0] 23)).cell? ⟨0, 0, none⟩ = some (.int .i64 m) := by
    rw [Below.cell (Below.alloc (Below.refl w.heap.size w) (Nat.le_refl _) _) (p := ⟨0, 0, none⟩) z0]
    exact hm
  have R0 := hid (heap_new w (.cells #[.int .i64 0, .int .i64 0, .int .i64 0, .int .i64 0] 23))
  have g0 := hid (show Below w.heap.size w (w.alloc (.cells #[.int .i64 0, .int .i64 0, .int .i64 0, .int .i64 0] 23)) from by go_grown)
  have K := hid (Tryd.strings_SplitN s ⟨#[44]⟩ 5 m (w.alloc (.cells #[.int .i64 0, .int .i64 0, .int .i64 0, .int .i64 0] 23)) hs hm1 (by decide) (by decide) (by decide))
  have hw : Lib.splitB ⟨#[44]⟩ 0 (min 5 (s.size + 1) - 1) s = wordsOf s := rfl
  rw [hw] at K
  generalize wordsOf s = ws at *
  generalize min 5 (s.size + 1) = c at *
  have KW := hid (fun W => within_any (readN ws) 11 W)
  clear hw hm hm1 z0
  by_cases h4 : ws.length = 4
  · have ew : readF ws = withF (readN ws) 11 := by rw [readF, if_pos h4]
    rw [ew]
    clear ew
    have c0 := cellsOf_at ws c
    rw [h4] at K c0
    have KE : Hid (∀ (W1 : World) (B b : Nat), W1.cell? ⟨B, 0, none⟩ = some (.slice (some ⟨b, 0, none⟩) 4 c) → (∀ i, i < 4 → W1.cell? ⟨b, i, none⟩ = some (.string (wordAt ws i))) → Calls Tryd.prog 27 #[.func (.func 34) #[] #[.pointer (some ⟨B, 0, none⟩)]] W1 fun e w' => e = .returned (.agg #[.int .i64 (readN ws 0), .int .i64 (readN ws 1), .int .i64 (readN ws 2), .int .i64 (readN ws 3)]) ∧ Below W1.heap.size W1 w') :=
      hid fun W1 B b h1 h2 => each34_any _ (readN ws) W1 (hid fun i W hi hb => read1_any i B b c (wordAt ws i) W hi (by rw [Below.cell hb (p := ⟨B, 0, none⟩) (block_lt_of_cell h1)]; exact h1) (by rw [Below.cell hb (p := ⟨b, i, none⟩) (block_lt_of_cell (h2 i hi))]; exact h2 i hi))
    generalize withF (readN ws) 11 = L at *
    generalize Lib.cellsOf ws c = cells at *
    have HC := hid c0
    clear c0
    go_enter Tryd.func22, Tryd.ntmps22
    go_wp2_with fail
    refine K.out.mono ?_
    rintro _ w2 ⟨rfl, rfl⟩
    have X3 := hid (show (((w.alloc (.cells #[.int .i64 0, .int .i64 0, .int .i64 0, .int .i64 0] 23)).alloc (.cells cells 9)).alloc (.cells #[.slice (some ⟨w.heap.size + 1, 0, none⟩) 4 c] 41)).heap[w.heap.size + 1 + 1]? = some (.cells #[.slice (some ⟨w.heap.size + 1, 0, none⟩) 4 c] 41) from by simpa using heap_new ((w.alloc (.cells #[.int .i64 0, .int .i64 0, .int .i64 0, .int .i64 0] 23)).alloc (.cells cells 9)) (.cells #[.slice (some ⟨w.heap.size + 1, 0, none⟩) 4 c] 41))
    have Y3 := hid (show (((w.alloc (.cells #[.int .i64 0, .int .i64 0, .int .i64 0, .int .i64 0] 23)).alloc (.cells cells 9)).alloc (.cells #[.slice (some ⟨w.heap.size + 1, 0, none⟩) 4 c] 41)).heap[w.heap.size + 1]? = some (.cells cells 9) from heapA (by simpa using heap_new (w.alloc (.cells #[.int .i64 0, .int .i64 0, .int .i64 0, .int .i64 0] 23)) (.cells cells 9)))
    have R3 := hid (heapA (o := .cells #[.slice (some ⟨w.heap.size + 1, 0, none⟩) 4 c] 41) (heapA (o := .cells cells 9) R0.out))
    have g3 := hid (show Below w.heap.size w (((w.alloc (.cells #[.int .i64 0, .int .i64 0, .int .i64 0, .int .i64 0] 23)).alloc (.cells cells 9)).alloc (.cells #[.slice (some ⟨w.heap.size + 1, 0, none⟩) 4 c] 41)) from by go_grown)
    clear R0 g0
    go_wp2_with fail
    refine (KE.out _ (w.heap.size + 1 + 1) (w.heap.size + 1) (by rw [cell_of X3.out]; rfl) (fun i hi => (cell_of Y3.out i).trans (HC.out i hi))).mono ?_
    rintro _ w4 ⟨rfl, hbb⟩
    have g4 := hid (below_step g3.out g3.out.size hbb)
    have R4 := hid (keep0 hbb R3.out)
    clear hbb R3 g3 X3 Y3
    go_wp2_with fail
    refine (KW.out _).mono ?_
    rintro _ w5 ⟨rfl, hbb⟩
    have g5 := hid (below_step g4.out g4.out.size hbb)
    have R5 := hid (keep0 hbb R4.out)
    clear hbb R4 g4
    obtain ⟨b0, b1, b2, b3⟩ := four R5.out
    obtain ⟨f0, f1, f2, f3⟩ := fourF R5.out
    go_wp2_with fail
    exact bodyPost_ret (v := .tuple #[.agg #[.int .i64 (L.1 0), .int .i64 (L.1 1), .int .i64 (L.1 2), .int .i64 (L.1 3)], .int .i64 L.2]) (results_row_tmp Tryd.results22 _ _ w.heap.size 23 _ (0, 0) _ _ rfl rfl (four_set _ _ _ _ R5.out) Tryd.underlying23 rfl (by kernel_rfl)) rfl ⟨rfl, four_below _ _ _ _ g5.out (Nat.le_refl _)⟩
  · have ew : readF ws = (fun _ => 0, 11) := by rw [readF, if_neg h4]
    have h5 : ((ws.length : Int) != 4) = true := by simp; omega
    rw [ew]
    clear ew
    generalize Lib.cellsOf ws c = cells at *
    go_enter Tryd.func22, Tryd.ntmps22
    go_wp2_with fail
    refine K.out.mono ?_
    rintro _ w2 ⟨rfl, rfl⟩
    go_wp2_with fail
    all_goals go_returns
    all_goals exact ⟨rfl, by go_grown⟩
end Go.Proofs.YtcflpclndjlchaaDoor
