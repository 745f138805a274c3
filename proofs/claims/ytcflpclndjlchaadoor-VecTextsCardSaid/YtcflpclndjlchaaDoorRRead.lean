/- The reference's Read, called at any text of at most 1000 bytes: what vec.Read tells. Condition: the length. -/
import Derived.Test.YtcflpclndjlchaaDoorCut
import Derived.Test.YtcflpclndjlchaaDoorRNum
namespace Go.Proofs.YtcflpclndjlchaaDoor
open Go Go.RowKit
set_option maxHeartbeats 4000000 in
theorem rread_any (s : ByteArray) (w : World) (hs : s.size ≤ 1000) :
    Calls Tryd.prog 23 #[.string s] w fun en w' => en = .returned (.tuple #[.agg #[.int .i64 ((readF (cutF s)).1 0), .int .i64 ((readF (cutF s)).1 1), .int .i64 ((readF (cutF s)).1 2), .int .i64 ((readF (cutF s)).1 3)], .int .i64 (readF (cutF s)).2]) ∧ Below w.heap.size w w' := by
  have R0 := hid (heap_new w (.cells #[.int .i64 0, .int .i64 0, .int .i64 0, .int .i64 0] 23))
  have g0 := hid (show Below w.heap.size w (w.alloc (.cells #[.int .i64 0, .int .i64 0, .int .i64 0, .int .i64 0] 23)) from by go_grown)
  have K := hid (cut_any s (w.alloc (.cells #[.int .i64 0, .int .i64 0, .int .i64 0, .int .i64 0] 23)) hs)
  have hpos : 0 < (cutF s).length := by unfold cutF; simp
  generalize cutF s = ws at *
  have KN : Hid (∀ i w, Calls Tryd.prog 37 #[.string (wordAt ws i), .int .i64 10] w fun e w' => e = .returned (.int .i64 (readN ws i)) ∧ Below w.heap.size w w') := hid fun i w => rnumber_any (wordAt ws i) w
  by_cases h4 : ws.length = 4
  · have ew : readF ws = withF (readN ws) 11 := by rw [readF, if_pos h4]
    rw [ew]
    clear ew
    rw [h4] at K
    go_enter Tryd.func23, Tryd.ntmps23
    go_wp2_with fail
    refine K.out.mono ?_
    rintro _ w2 ⟨v, rfl, hown, hbb⟩
    obtain ⟨hl, ⟨rfl, h0⟩ | ⟨g, cap, cur, rfl, hbase, hh, hn, hcap, hcur, htake⟩⟩ := hown
    · omega
    · have g2 := hid (below_step g0.out (by go_size) hbb)
      have R2 := hid (keep0 hbb R0.out)
      clear hbb R0 g0 K
      have hbase' : w.heap.size + 1 ≤ g := by simpa using hbase
      have H2 := hid hh
      have HC : Hid (∀ i, i < 4 → cur[i]? = some (.string (wordAt ws i))) := hid fun i hi => by
        have h1 : (cur.toList.take (4 * 1))[i]? = some (.string (wordAt ws i)) := by
          rw [htake, List.getElem?_map]
          unfold wordAt
          rw [List.getD_eq_getElem?_getD, List.getElem?_eq_getElem (by omega)]
          rfl
        rw [List.getElem?_take, if_pos (by omega)] at h1
        rw [← Array.getElem?_toList]
        exact h1
      clear hh hbase hn hcap hcur htake hl hpos
      go_wp2_with fail
      go_loopw [6] (fun i wr => ∃ k : Nat, k ≤ 4 ∧ i = .int .i64 k ∧ Hid (∀ j, j < k → 0 ≤ readN ws j ∧ readN ws j ≤ 1073741824) ∧ Below w.heap.size w wr ∧ wr.heap[w.heap.size]? = some (.cells #[.int .i64 0, .int .i64 0, .int .i64 0, .int .i64 0] 23 (0, 0)) ∧ wr.heap[g]? = some (.cells cur 9 (0, 0)) ∧ wr.heap[w2.heap.size]? = some (.cells (gcells (readN ws) k) 23 (0, 0))) (fun i _ => 4 - (intOf i).toNat)
      case atStart => exact ⟨0, by omega, rfl, hid fun j hj => by omega, g2.out.alloc g2.out.size _, heapA R2.out, heapA H2.out, heap_new w2 _⟩
      case round =>
        obtain ⟨k, hk, rfl, hd, hg, hR, hH, hV⟩ := hrel
        have zR := hid (show w.heap.size < w2.heap.size from lt_of R2.out)
        have zG := hid (show g < w2.heap.size from lt_of H2.out)
        have HG := hid hg
        have HR := hid hR
        have HH := hid hH
        have HV := hid hV
        clear hg hR hH hV
        by_cases hk4 : k < 4
        · have h4' : (k : Int) < 4 := by omega
          have cG : wr.cell? ⟨g, k, none⟩ = some (.string (wordAt ws k)) := (cell_of HH.out k).trans (HC.out k hk4)
          go_wp2_with fail
          refine (KN.out k _).mono ?_
          rintro _ w3 ⟨rfl, hbb⟩
          have G3 := hid (below_step HG.out HG.out.size hbb)
          have R3 := hid (keep0 hbb HR.out)
          have H3 := hid (keep0 hbb HH.out)
          have V3 := hid (keep0 hbb HV.out)
          clear hbb cG HG HR HH HV
          by_cases hok : 0 ≤ readN ws k ∧ readN ws k ≤ 1073741824
          · obtain ⟨o0, o1⟩ := hok
            have o2 : ¬ readN ws k < 0 := by omega
            have o3 : ¬ 1073741824 < readN ws k := by omega
            have cV : w3.cell? ⟨w2.heap.size, k, none⟩ = some (.int .i64 (garr (readN ws) k k)) := (cell_of V3.out k).trans (vec_at (garr (readN ws) k) k hk4)
            have fV := free_of V3.out k
            go_wp2_with fail
            go_roundw
            case rel =>
              refine ⟨k + 1, by omega, by go_num, hid fun j hj => ?_, G3.out.setCell (p := ⟨w2.heap.size, k, none⟩) (by have := zR.out; simp only; omega) _, (heap_setCell_other _ _ _ _ (by have := zR.out; simp only; omega)).trans R3.out, (heap_setCell_other _ _ _ _ (by have := zG.out; simp only; omega)).trans H3.out, arr_set hk4 V3.out⟩
              by_cases hjk : j = k
              · subst hjk
                exact ⟨o0, o1⟩
              · exact hd.out j (by omega)
            case measure => simp [intOf]; omega
          · have hb : ¬ rightB (readN ws) = true := fun h => hok ((rightB_iff _).1 h k hk4)
            have ew := hid (show withF (readN ws) 11 = (fun _ => 0, 11) from by rw [withF, if_neg hb])
            obtain ⟨b0, b1, b2, b3⟩ := four R3.out
            obtain ⟨f0, f1, f2, f3⟩ := fourF R3.out
            rcases (by omega : readN ws k < 0 ∨ (¬ readN ws k < 0 ∧ 1073741824 < readN ws k)) with o | ⟨o, o'⟩
            all_goals
              clear hb hok
              go_wp2_with fail
              exact bodyPost_ret (v := .tuple #[.agg #[.int .i64 0, .int .i64 0, .int .i64 0, .int .i64 0], .int .i64 11]) (results_row_tmp Tryd.results23 _ _ w.heap.size 23 _ (0, 0) _ _ rfl rfl (four_set _ _ _ _ R3.out) Tryd.underlying23 rfl (by kernel_rfl)) rfl ⟨by rw [ew.out], four_below _ _ _ _ G3.out (Nat.le_refl _)⟩
        · obtain rfl : k = 4 := by omega
          have hS : rightB (readN ws) = true := (rightB_iff _).2 hd.out
          have ew := hid (show withF (readN ws) 11 = (readN ws, 0) from by rw [withF, if_pos hS])
          have V4 := hid (show wr.heap[w2.heap.size]? = some (.cells #[.int .i64 (readN ws 0), .int .i64 (readN ws 1), .int .i64 (readN ws 2), .int .i64 (readN ws 3)] 23 (0, 0)) from HV.out)
          clear HV hS hd
          obtain ⟨a0, a1, a2, a3⟩ := four V4.out
          obtain ⟨b0, b1, b2, b3⟩ := four HR.out
          obtain ⟨f0, f1, f2, f3⟩ := fourF HR.out
          go_wp2_with fail
          exact bodyPost_ret (v := .tuple #[.agg #[.int .i64 (readN ws 0), .int .i64 (readN ws 1), .int .i64 (readN ws 2), .int .i64 (readN ws 3)], .int .i64 0]) (results_row_tmp Tryd.results23 _ _ w.heap.size 23 _ (0, 0) _ _ rfl rfl (four_set _ _ _ _ HR.out) Tryd.underlying23 rfl (by kernel_rfl)) rfl ⟨by rw [ew.out], four_below _ _ _ _ HG.out (Nat.le_refl _)⟩
  · have ew : readF ws = (fun _ => 0, 11) := by rw [readF, if_neg h4]
    have h5 : ((ws.length : Int) != 4) = true := by simp; omega
    rw [ew]
    clear ew
    go_enter Tryd.func23, Tryd.ntmps23
    go_wp2_with fail
    refine K.out.mono ?_
    rintro _ w2 ⟨v, rfl, hown, hbb⟩
    obtain ⟨hl, ⟨rfl, h0⟩ | ⟨g, cap, cur, rfl, hbase, hh, hn, hcap, hcur, htake⟩⟩ := hown
    · omega
    · have g2 := hid (below_step g0.out (by go_size) hbb)
      have R2 := hid (keep0 hbb R0.out)
      clear hbb R0 g0 K
      have hbase' : w.heap.size + 1 ≤ g := by simpa using hbase
      have H2 := hid hh
      have HC : Hid (∀ i, i < ws.length → cur[i]? = some (.string (wordAt ws i))) := hid fun i hi => by
        have h1 : (cur.toList.take (ws.length * 1))[i]? = some (.string (wordAt ws i)) := by
          rw [htake, List.getElem?_map]
          unfold wordAt
          rw [List.getD_eq_getElem?_getD, List.getElem?_eq_getElem hi]
          rfl
        rw [List.getElem?_take, if_pos (by omega)] at h1
        rw [← Array.getElem?_toList]
        exact h1
      clear hh hbase hn hcap hcur htake hl hpos
      obtain ⟨b0, b1, b2, b3⟩ := four R2.out
      obtain ⟨f0, f1, f2, f3⟩ := fourF R2.out
      go_wp2_with fail
      exact bodyPost_ret (v := .tuple #[.agg #[.int .i64 0, .int .i64 0, .int .i64 0, .int .i64 0], .int .i64 11]) (results_row_tmp Tryd.results23 _ _ w.heap.size 23 _ (0, 0) _ _ rfl rfl (four_set _ _ _ _ R2.out) Tryd.underlying23 rfl (by kernel_rfl)) rfl ⟨rfl, four_below _ _ _ _ g2.out (Nat.le_refl _)⟩
end Go.Proofs.YtcflpclndjlchaaDoor
