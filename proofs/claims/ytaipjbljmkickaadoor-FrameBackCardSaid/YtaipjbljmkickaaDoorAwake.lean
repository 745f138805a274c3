/- The statements' own example: true. Condition: the table stands in memory. -/
import Derived.Test.YtaipjbljmkickaaDoorSame
import Derived.Lib.SlBytesConst
namespace Go.Proofs.YtaipjbljmkickaaDoor
open Go Go.RowKit
theorem frameB_len (x : List UInt8) : (frameB x).length = x.length + 8 := by simp [frameB, wordB_len]; omega
theorem frameB_split (x rest : List UInt8) : frameB x ++ rest = wordB x.length ++ (x ++ (wordB (crc (wordB x.length ++ x)) ++ rest)) := by simp [frameB]
theorem nextS_frame (x rest : List UInt8) (h : x.length ≤ 65536) : nextS (frameB x ++ rest) = (0, x.length) := by
  have hl : (frameB x ++ rest).length = x.length + 8 + rest.length := by rw [List.length_append, frameB_len]
  have hn : num4 (frameB x ++ rest) = x.length := by rw [frameB_split]; exact num4_word _ _ (by omega)
  have ht : (frameB x ++ rest).take (x.length + 4) = wordB x.length ++ x := by
    rw [frameB_split, ← List.append_assoc, List.take_append_of_le_length (by simp [wordB_len]; omega), List.take_of_length_le (by simp [wordB_len]; omega)]
  have hd : (frameB x ++ rest).drop (x.length + 4) = wordB (crc (wordB x.length ++ x)) ++ rest := by
    rw [frameB_split, ← List.append_assoc, List.drop_append_of_le_length (by simp [wordB_len]; omega), List.drop_of_length_le (by simp [wordB_len]; omega), List.nil_append]
  unfold nextS
  rw [hl, hn, if_neg (by omega), if_neg (by omega), if_neg (by omega), ht, hd, num4_word _ _ (crc_lt _), if_pos rfl]
theorem bodyS_frame (x rest : List UInt8) : bodyS (frameB x ++ rest) x.length = x := by
  unfold bodyS
  rw [frameB_split, List.drop_append_of_le_length (by simp [wordB_len]), List.drop_of_length_le (by simp [wordB_len]), List.nil_append, List.take_append_of_le_length (by omega), List.take_of_length_le (by omega)]
theorem drop_frame (x rest : List UInt8) : (frameB x ++ rest).drop (x.length + 8) = rest := by
  rw [List.drop_append_of_le_length (by rw [frameB_len]; omega), List.drop_of_length_le (by rw [frameB_len]; omega), List.nil_append]
theorem scanS_frame (x rest : List UInt8) (h : x.length ≤ 65536) : scanS (frameB x ++ rest) = (x :: (scanS rest).1, x.length + 8 + (scanS rest).2) := by
  rw [scanS_yes (nextS_frame x rest h), bodyS_frame, drop_frame]
theorem scanS_short {l : List UInt8} (h : l.length < 8) : scanS l = ([], 0) := by
  apply scanS_no
  intro h0
  have := nextS_yes (bs := l) (n := (nextS l).2) (by rw [← h0])
  omega
theorem scan_ex : scanS (frameB [97] ++ [1, 2]) = ([[97]], 9) := by
  rw [scanS_frame _ _ (by simp), scanS_short (by simp)]
  rfl
theorem crc_ex : crc [49, 50, 51, 52, 53, 54, 55, 56, 57] = 3421780262 := by decide +kernel
theorem new_bts {w : World} (vs : Array Value) (bs : List UInt8) (f : Nat × Nat) (h : vs.toList = bs.map bv) : Bts (w.alloc (.cells vs 5 f)) (some ⟨w.heap.size, 0, none⟩) bs := by
  refine .inr ⟨w.heap.size, 0, rfl, by simp, fun j x hx => ?_⟩
  rw [cell_of (heap_new w _), Nat.zero_add, ← Array.getElem?_toList, h, List.getElem?_map, hx]
  rfl
set_option maxHeartbeats 1000000 in
theorem awake_any (w : World) (hT : Tab w) : Calls Tryd.prog 9 #[] w fun e w' => e = .returned (.bool true) ∧ Below w.heap.size w w' := by
  obtain ⟨i0, hi, hz0, hz1, hz2⟩ := info_parts Tryd.info5
  have h0 := hid hT.choose_spec.choose_spec
  have hpos : 0 < w.heap.size := lt_of h0.out
  have K10 := hid (frame_any (some ⟨w.heap.size, 0, none⟩) 1 [97] (w.alloc (.cells #[.int .u8 97] 5 (1, 2))) ⟨new_bts _ _ _ rfl, by simp, fun e => by cases e⟩ (tab_below hT (by go_grown)) (by simp))
  have g0 := hid (show Below w.heap.size w (w.alloc (.cells #[.int .u8 97] 5 (1, 2))) from by go_grown)
  have HT := hid hT
  have k22 := fun (w : World) (C : Array Value) (n c : Nat) => Lib.run_convert_bytes_const (P := Tryd.prog) w 22 5 C n c Tryd.underlying22 Tryd.underlying5
  clear hT h0
  go_enter Tryd.func9, Tryd.ntmps9
  go_wp2_with fail
  refine K10.out.mono ?_
  rintro _ w1 ⟨v, rfl, ho, hbb⟩
  have g1 := hid (below_step g0.out (by simp) hbb)
  have hown := hid (show Own w1 w.heap.size v (frameB [97]) from ho.mono (by simp))
  have hown1 : w1.ownsRow w.heap.size 5 1 v 9 ((frameB [97]).map bv) := hown.out
  clear hbb ho K10 g0
  go_wp2_with (at_builtin; refine wpList_append_own _ rfl _ _ 22 rfl w.heap.size 5 i0 (.int .u8 0) 1 1 Tryd.underlying22 hi hz0 hz1 hz2 rfl (by decide) _ _ _ rfl (hown1.alloc _) ⟨w1.heap.size, 0, none⟩ 2 2 [bv 1, bv 2] rfl rfl ?c1 ?c2 ?c3 ?c4 ?c5 ?_)
  case c1 =>
    intro j u hj
    rw [add_off, cell_of (heap_new _ _), Nat.zero_add]
    match j, hj with
    | 0, hj => simp at hj; subst hj; rfl
    | 1, hj => simp at hj; subst hj; rfl
  case c2 =>
    intro u hu
    simp at hu
    rcases hu with rfl | rfl <;> rfl
  case c3 => unfold maxLen; omega
  case c4 => omega
  case c5 => have := g1.out.size; simp; omega
  intro v2 w2 hown2 hgrow _
  have g2 := hid (Below.grown (g1.out.alloc g1.out.size _) hgrow (by have := g1.out.size; simp; omega) (own_base hown1))
  have O2 := hid (show Own w2 w.heap.size v2 (frameB [97] ++ [1, 2]) from by unfold Own; rw [List.map_append]; exact hown2)
  clear hown2 hgrow hown1 hown
  obtain ⟨A2, c2, rfl, hb2, hc2, _⟩ := O2.out.is
  have K16 := hid (scan_any A2 c2 _ w2 hb2 hc2 (tab_below HT.out g2.out) (by rw [List.length_append, frameB_len]; simp))
  rw [scan_ex, List.length_append, frameB_len] at K16
  rw [List.length_append, frameB_len]
  clear hb2 hc2 O2
  go_wp2_with fail
  refine K16.out.mono ?_
  rintro _ w3 ⟨v3, rfl, ho, hbb⟩
  have g3 := hid (below_step g2.out g2.out.size hbb)
  obtain ⟨A3, c3, rfl, hr3, _⟩ := ho.is
  rcases hr3 with h | ⟨b3, o3, rfl, hlt3, hc3⟩
  · cases h
  · obtain ⟨A4, c4, hx, hb4⟩ := hc3 0 [97] rfl
    rw [Nat.add_zero] at hx
    have g4 := hid (g3.out.alloc g3.out.size (.cells #[.int .u8 49, .int .u8 50, .int .u8 51, .int .u8 52, .int .u8 53, .int .u8 54, .int .u8 55, .int .u8 56, .int .u8 57] 5 (9, 10)))
    have hal : Below w3.heap.size w3 (w3.alloc (.cells #[.int .u8 49, .int .u8 50, .int .u8 51, .int .u8 52, .int .u8 53, .int .u8 54, .int .u8 55, .int .u8 56, .int .u8 57] 5 (9, 10))) := by go_grown
    have K12 := hid (sum_any (some ⟨w3.heap.size, 0, none⟩) 9 [49, 50, 51, 52, 53, 54, 55, 56, 57] _ (new_bts (w := w3) #[.int .u8 49, .int .u8 50, .int .u8 51, .int .u8 52, .int .u8 53, .int .u8 54, .int .u8 55, .int .u8 56, .int .u8 57] _ (9, 10) rfl) (tab_below HT.out g4.out) (by simp))
    rw [crc_ex] at K12
    have hs := str_of c4 (hb4.keep hal)
    simp only [List.length_singleton] at hs
    have hx' := (hal.cell (p := ⟨b3, o3, none⟩) hlt3).trans hx
    clear hbb ho hc3 K16 g2 g1 hx hb4 hal g3
    go_wp2_with fail
    refine K12.out.mono ?_
    rintro _ w4 ⟨rfl, rfl⟩
    go_wp2_with fail
    all_goals go_returns
    all_goals exact ⟨by first | rfl | simp, g4.out⟩
end Go.Proofs.YtaipjbljmkickaaDoor
