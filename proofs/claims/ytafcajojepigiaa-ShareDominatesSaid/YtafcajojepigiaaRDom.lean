/- The reference's Dominant, called at any amounts: what share.Dominant tells. Condition: none. -/
import Derived.Test.YtafcajojepigiaaRLow
import Derived.Test.YtafcajojepigiaaDom
import Derived.Deep.RegionWith
import Derived.Deep.DeepCutAuto
namespace Go.Proofs.Ytafcajojepigiaa
open Go Go.RowKit
theorem domF_one (H G : Nat → Int) : domF H G 1 = 0 := by
  show (if 0 < cmpS (mx0 (H 0)) (mx0 (G 0)) (mx0 (H (domF H G 0))) (mx0 (G (domF H G 0))) then 0 else domF H G 0) = 0
  split <;> rfl
theorem heapA {w : World} {o c : Obj} {k : Nat} (h : w.heap[k]? = some c) : (w.alloc o).heap[k]? = some c := (Below.heap_alloc _ _ _ (lt_of h)).trans h
theorem other2 {w : World} {B k : Nat} {c : Obj} (v0 v1 : Value) (hk : k ≠ B) (h : w.heap[k]? = some c) : ((w.setCell ⟨B, 0, none⟩ v0).setCell ⟨B, 1, none⟩ v1).heap[k]? = some c := (two_other v0 v1 hk).trans h
set_option maxHeartbeats 4000000 in
theorem rdom_any (H G : Nat → Int) (w : World) (hH : ∀ i, H i ≤ 9223372036854775807) (hG : ∀ i, G i ≤ 9223372036854775807) :
    Calls Try.prog 14 #[.agg #[.int .i64 (H 0), .int .i64 (H 1), .int .i64 (H 2), .int .i64 (H 3)], .agg #[.int .i64 (G 0), .int .i64 (G 1), .int .i64 (G 2), .int .i64 (G 3)]] w fun e w' => e = .returned (.tuple #[.agg #[.int .i64 (mx0 (H (domF H G 4))), .int .i64 (mx0 (G (domF H G 4)))], .int .i64 (domF H G 4)]) ∧ Below w.heap.size w w' := by
  have KP := hid rplain_bel
  have KC : Hid (∀ i j W, Calls Try.prog 12 #[.agg #[.int .i64 (mx0 (H i)), .int .i64 (mx0 (G i))], .agg #[.int .i64 (mx0 (H j)), .int .i64 (mx0 (G j))]] W fun e w' => e = .returned (.int .i64 (cmpS (mx0 (H i)) (mx0 (G i)) (mx0 (H j)) (mx0 (G j)))) ∧ Below W.heap.size W w') :=
    hid fun i j W => ref_any _ _ _ _ _ W (mx0_bd _ (hH i)) (mx0_bd _ (hG i)) (mx0_bd _ (hH j)) (mx0_bd _ (hG j)) (Nat.lt_succ_self _)
  clear hH hG
  have A0 := hid (show (((w.alloc (.cells #[.int .i64 (H 0), .int .i64 (H 1), .int .i64 (H 2), .int .i64 (H 3)] 28)).alloc (.cells #[.int .i64 (G 0), .int .i64 (G 1), .int .i64 (G 2), .int .i64 (G 3)] 28)).alloc (.cells #[.int .i64 0, .int .i64 0] 23)).heap[w.heap.size]? = some (.cells #[.int .i64 (H 0), .int .i64 (H 1), .int .i64 (H 2), .int .i64 (H 3)] 28) from heapA (heapA (heap_new w _)))
  have B0 := hid (show (((w.alloc (.cells #[.int .i64 (H 0), .int .i64 (H 1), .int .i64 (H 2), .int .i64 (H 3)] 28)).alloc (.cells #[.int .i64 (G 0), .int .i64 (G 1), .int .i64 (G 2), .int .i64 (G 3)] 28)).alloc (.cells #[.int .i64 0, .int .i64 0] 23)).heap[w.heap.size + 1]? = some (.cells #[.int .i64 (G 0), .int .i64 (G 1), .int .i64 (G 2), .int .i64 (G 3)] 28) from heapA (by simpa using heap_new (w.alloc (.cells #[.int .i64 (H 0), .int .i64 (H 1), .int .i64 (H 2), .int .i64 (H 3)] 28)) (.cells #[.int .i64 (G 0), .int .i64 (G 1), .int .i64 (G 2), .int .i64 (G 3)] 28)))
  have R0 := hid (show (((w.alloc (.cells #[.int .i64 (H 0), .int .i64 (H 1), .int .i64 (H 2), .int .i64 (H 3)] 28)).alloc (.cells #[.int .i64 (G 0), .int .i64 (G 1), .int .i64 (G 2), .int .i64 (G 3)] 28)).alloc (.cells #[.int .i64 0, .int .i64 0] 23)).heap[w.heap.size + 1 + 1]? = some (.cells #[.int .i64 0, .int .i64 0] 23) from by
    simpa using heap_new ((w.alloc (.cells #[.int .i64 (H 0), .int .i64 (H 1), .int .i64 (H 2), .int .i64 (H 3)] 28)).alloc (.cells #[.int .i64 (G 0), .int .i64 (G 1), .int .i64 (G 2), .int .i64 (G 3)] 28)) (.cells #[.int .i64 0, .int .i64 0] 23))
  have g0 := hid (show Below w.heap.size w (((w.alloc (.cells #[.int .i64 (H 0), .int .i64 (H 1), .int .i64 (H 2), .int .i64 (H 3)] 28)).alloc (.cells #[.int .i64 (G 0), .int .i64 (G 1), .int .i64 (G 2), .int .i64 (G 3)] 28)).alloc (.cells #[.int .i64 0, .int .i64 0] 23)) from by go_grown)
  have e0 := hid (domF_one H G)
  go_enter Try.func14, Try.ntmps14
  go_wp2_with fail
  refine (KP.out _ _ _).mono ?_
  rintro _ w2 ⟨rfl, hbb⟩
  have g2 := hid (below_step g0.out g0.out.size hbb)
  have A2 := hid (keep0 hbb A0.out)
  have B2 := hid (keep0 hbb B0.out)
  have R2 := hid (keep0 hbb R0.out)
  clear hbb A0 B0 R0 g0
  go_wp2_with fail
  go_loopw [7, 8] (fun b i wr => ∃ k : Nat, 1 ≤ k ∧ k ≤ 4 ∧ i = .int .i64 k ∧ b = .int .i64 (domF H G k) ∧ Below w.heap.size w wr ∧ wr.heap[w.heap.size]? = some (.cells #[.int .i64 (H 0), .int .i64 (H 1), .int .i64 (H 2), .int .i64 (H 3)] 28 (0, 0)) ∧ wr.heap[w.heap.size + 1]? = some (.cells #[.int .i64 (G 0), .int .i64 (G 1), .int .i64 (G 2), .int .i64 (G 3)] 28 (0, 0)) ∧ wr.heap[w.heap.size + 1 + 1]? = some (.cells #[.int .i64 0, .int .i64 0] 23 (0, 0)) ∧ wr.heap[w2.heap.size]? = some (.cells #[.int .i64 (mx0 (H (domF H G k))), .int .i64 (mx0 (G (domF H G k)))] 23 (0, 0))) (fun _ i _ => 4 - (intOf i).toNat)
  case atStart =>
    refine ⟨1, by omega, by omega, rfl, by rw [e0.out]; rfl, g2.out.alloc g2.out.size _, heapA A2.out, heapA B2.out, heapA R2.out, ?_⟩
    rw [e0.out]
    exact heap_new w2 _
  case round =>
    obtain ⟨k, hk1, hk, rfl, rfl, hg, hA, hB, hR, hT⟩ := hrel
    have zR := hid (show w.heap.size + 1 + 1 < w2.heap.size from lt_of R2.out)
    have G1 := hid hg
    have HA := hid hA
    have HB := hid hB
    have HR := hid hR
    have HT := hid hT
    have zT := lt_of hT
    clear hg hA hB hR hT
    have hds := hid (show domF H G (k + 1) = if 0 < cmpS (mx0 (H k)) (mx0 (G k)) (mx0 (H (domF H G k))) (mx0 (G (domF H G k))) then k else domF H G k from rfl)
    by_cases h4 : k < 4
    · have h4' : (k : Int) < 4 := by omega
      have cA := (cell_of HA.out k).trans (vec_at H k h4)
      have cB := (cell_of HB.out k).trans (vec_at G k h4)
      have zA := lt_of HA.out
      have zB := lt_of HB.out
      go_upto_region 6 with fail
      go_cut [9] (fun x wx => ∃ g : Nat, x = .pointer (some ⟨g, 0, none⟩) ∧ w2.heap.size < g ∧ Below w.heap.size w wx ∧ wx.heap[g]? = some (.cells #[.int .i64 (mx0 (H k)), .int .i64 (mx0 (G k))] 23 (0, 0)) ∧ wx.heap[w.heap.size]? = some (.cells #[.int .i64 (H 0), .int .i64 (H 1), .int .i64 (H 2), .int .i64 (H 3)] 28 (0, 0)) ∧ wx.heap[w.heap.size + 1]? = some (.cells #[.int .i64 (G 0), .int .i64 (G 1), .int .i64 (G 2), .int .i64 (G 3)] 28 (0, 0)) ∧ wx.heap[w.heap.size + 1 + 1]? = some (.cells #[.int .i64 0, .int .i64 0] 23 (0, 0)) ∧ wx.heap[w2.heap.size]? = some (.cells #[.int .i64 (mx0 (H (domF H G k))), .int .i64 (mx0 (G (domF H G k)))] 23 (0, 0)))
      case first =>
        go_region_with (go_at_call 26; first | (refine (KP.out _ _ (World.drew wr)).mono ?_; rintro e w4 ⟨rfl, hb⟩; have g4 := hid (below_step G1.out.drew G1.out.size hb); have A4 := hid (keep0 (unD hb) HA.out); have B4 := hid (keep0 (unD hb) HB.out); have R4 := hid (keep0 (unD hb) HR.out); have T4 := hid (keep0 (unD hb) HT.out); have z4 := hid hb.size; clear hb) | (refine (KP.out _ _ (World.drew (wr.alloc (.cells #[.int .i64 0, .int .i64 0] 23)))).mono ?_; rintro e w4 ⟨rfl, hb⟩; have g4 := hid (below_step (G1.out.alloc G1.out.size _).drew (by have := G1.out.size; go_size) hb); have A4 := hid (keepA (unD hb) HA.out); have B4 := hid (keepA (unD hb) HB.out); have R4 := hid (keepA (unD hb) HR.out); have T4 := hid (keepA (unD hb) HT.out); have X4 := hid (newA (unD hb)); obtain ⟨cX0, cX1⟩ := two X4.out; obtain ⟨fX0, fX1⟩ := twoF X4.out; clear hb))
        all_goals
          go_wp2_with fail
          go_meet
          refine ⟨_, rfl, ?_, ?_, ?_, ?_, ?_, ?_, ?_⟩
          · first | (with_reducible exact lt_of T4.out) | (with_reducible exact zT)
          · first | (with_reducible exact g4.out.alloc g4.out.size _) | (with_reducible exact two_below _ _ g4.out G1.out.size)
          · first | (with_reducible exact heap_new w4 _) | (with_reducible exact two_set _ _ X4.out)
          · first | (with_reducible exact heapA A4.out) | (with_reducible exact other2 _ _ (Nat.ne_of_lt (lt_of HA.out)) A4.out)
          · first | (with_reducible exact heapA B4.out) | (with_reducible exact other2 _ _ (Nat.ne_of_lt (lt_of HB.out)) B4.out)
          · first | (with_reducible exact heapA R4.out) | (with_reducible exact other2 _ _ (Nat.ne_of_lt (lt_of HR.out)) R4.out)
          · first | (with_reducible exact heapA T4.out) | (with_reducible exact other2 _ _ (Nat.ne_of_lt (lt_of HT.out)) T4.out)
      case rest =>
        obtain ⟨g, rfl, hgt, hg, hX, hA, hB, hR, hT⟩ := hcut
        clear G1 HA HB HR HT cA cB zA zB
        have G1 := hid hg
        have HX := hid hX
        have HA := hid hA
        have HB := hid hB
        have HR := hid hR
        have HT := hid hT
        obtain ⟨cX0, cX1⟩ := two HX.out
        obtain ⟨cT0, cT1⟩ := two HT.out
        clear hg hX hA hB hR hT
        go_wp2_with fail
        refine (KC.out k (domF H G k) _).mono ?_
        rintro _ w5 ⟨rfl, hbb⟩
        have G5 := hid (below_step G1.out G1.out.size hbb)
        have X5 := hid (keep0 hbb HX.out)
        have A5 := hid (keep0 hbb HA.out)
        have B5 := hid (keep0 hbb HB.out)
        have R5 := hid (keep0 hbb HR.out)
        have T5 := hid (keep0 hbb HT.out)
        clear hbb cX0 cX1 cT0 cT1
        generalize cmpS (mx0 (H k)) (mx0 (G k)) (mx0 (H (domF H G k))) (mx0 (G (domF H G k))) = c at hds
        by_cases hc : 0 < c
        · have hd' := hid (show domF H G (k + 1) = k by rw [hds.out, if_pos hc])
          obtain ⟨cX0, cX1⟩ := two X5.out
          obtain ⟨cT0, cT1⟩ := two T5.out
          obtain ⟨fT0, fT1⟩ := twoF T5.out
          go_wp2_with fail
          go_roundw
          case rel =>
            refine ⟨k + 1, by omega, by omega, by go_num, by rw [hd'.out], ?_, ?_, ?_, ?_, ?_⟩
            · exact two_below _ _ G5.out (by have := zR.out; omega)
            · exact other2 _ _ (by have := zR.out; omega) A5.out
            · exact other2 _ _ (by have := zR.out; omega) B5.out
            · exact other2 _ _ (by have := zR.out; omega) R5.out
            · rw [hd'.out]
              exact two_set _ _ T5.out
          case measure => simp [intOf]; omega
        · have hd' := hid (show domF H G (k + 1) = domF H G k by rw [hds.out, if_neg hc])
          go_wp2_with fail
          go_roundw
          case rel => exact ⟨k + 1, by omega, by omega, by go_num, by rw [hd'.out], G5.out, A5.out, B5.out, R5.out, by rw [hd'.out]; exact T5.out⟩
          case measure => simp [intOf]; omega
    · obtain rfl : k = 4 := by omega
      obtain ⟨cT0, cT1⟩ := two HT.out
      obtain ⟨cR0, cR1⟩ := two HR.out
      obtain ⟨fR0, fR1⟩ := twoF HR.out
      clear hds
      go_wp2_with fail
      exact bodyPost_ret (v := .tuple #[.agg #[.int .i64 (mx0 (H (domF H G 4))), .int .i64 (mx0 (G (domF H G 4)))], .int .i64 (domF H G 4)]) (results_row_tmp Try.results14 _ _ (w.heap.size + 1 + 1) 23 _ (0, 0) _ _ rfl rfl (two_set _ _ HR.out) Try.underlying23 rfl (by kernel_rfl)) rfl ⟨rfl, two_below _ _ G1.out (by omega)⟩
end Go.Proofs.Ytafcajojepigiaa
