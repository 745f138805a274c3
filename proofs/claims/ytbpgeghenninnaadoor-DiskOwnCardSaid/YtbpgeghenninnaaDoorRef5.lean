/- The document's disk, by values: Commit. Condition: none. -/
import Derived.Test.YtbpgeghenninnaaDoorRef4
import Derived.Lib.ConvBytes
namespace Go.Proofs.YtbpgeghenninnaaDoor
open Go Go.RowKit
theorem conv_bytes (l : List UInt8) (w : World) : ∃ (w' : World) (cap : Nat), (convert 9 32 (.string (str l))).run Tryd.prog w = .ok (.slice (some ⟨w.heap.size, 0, none⟩) l.length cap) w' ∧ Below w.heap.size w w' ∧ Bts w' (some ⟨w.heap.size, 0, none⟩) l ∧ w'.heap.size = w.heap.size + 1 := by
  have h := Lib.run_convert_string_bytes (P := Tryd.prog) w 9 32 5 (str l) Tryd.underlying9 Tryd.underlying32 Tryd.underlying5
  rw [str_size] at h
  refine ⟨_, _, h, ⟨rfl, rfl, rfl, by rw [Lib.bytesWorld_size]; omega, fun k hk => Lib.bytesWorld_at_old w 5 (str l) k hk⟩, .inr ⟨w.heap.size, 0, rfl, by rw [Lib.bytesWorld_size]; omega, fun j x hx => ?_⟩, Lib.bytesWorld_size w 5 (str l)⟩
  have hj : j < l.length := (List.getElem?_eq_some_iff.1 hx).1
  rw [Nat.zero_add, Lib.bytesWorld_cell w 5 (str l) j (by rw [str_size]; exact hj)]
  unfold bv str
  simp [List.getD_eq_getElem?_getD, hx]
set_option maxHeartbeats 4000000 in
theorem rcommit_any (d : Dsk) (ep sum from_ : Int) (w : World) (hl : d.log.length ≤ 1048576) (hs : d.stg.length ≤ 1048576) :
    Calls Tryd.prog 28 #[.agg (rv d), .int .i64 ep, .int .u32 sum, .int .i64 from_] w fun e w' => e = .returned (.tuple #[.agg (rv (coD d ep sum from_)), .int .i64 (coE d ep sum from_)]) ∧ Below w.heap.size w w' := by
  have hE : coE d ep sum from_ = if ep ≠ d.e then 150 else if (crc d.stg : Int) ≠ sum then 20 else if from_ < 0 ∨ (d.log.length : Int) < from_ then 151 else 0 := rfl
  have hD : coD d ep sum from_ = if coE d ep sum from_ = 0 then { d with snap := d.stg, stg := [], log := d.log.drop from_.toNat } else d := rfl
  have hls : (str d.log).size = d.log.length := str_size _
  have hll : (str d.log).size ≤ 1048576 := by omega
  have CV := fun w => conv_bytes d.stg w
  by_cases he : ep = d.e
  · rw [if_neg (by simp [he])] at hE
    subst he
    by_cases hsum : (crc d.stg : Int) = sum
    · rw [if_neg (by simp [hsum])] at hE
      by_cases hbad : from_ < 0 ∨ (d.log.length : Int) < from_
      · rw [if_pos hbad] at hE
        rw [hE, if_neg (by decide)] at hD
        rw [hE, hD]
        simp only [rv]
        rw [← hls] at hbad
        subst hsum
        clear hE hD hls hl
        obtain ⟨stg, hstg⟩ : ∃ stg, stg = d.stg := ⟨_, rfl⟩
        rw [← hstg] at CV hs ⊢
        clear hstg
        obtain ⟨cr, hCr⟩ : ∃ cr, crc stg = cr := ⟨_, rfl⟩
        rw [hCr]
        generalize str stg = st at *
        generalize d.e = de at *
        generalize d.o = do_ at *
        generalize d.u = du at *
        generalize d.cut = dc at *
        generalize d.armed = da at *
        generalize d.room = room at *
        generalize str d.log = sl at *
        generalize str d.snap = ss at *
        by_cases h0 : from_ < 0
        · clear hbad
          obtain ⟨w1, cap, hcv, hcb, hcB, hcz⟩ := CV ((w.alloc (.cells #[.int .i64 room, .int .i64 de, .int .i64 do_, .int .i64 du, .string sl, .string ss, .string st, .bool da, .int .i64 dc] 29)).alloc (.cells #[.int .i64 0, .int .i64 0, .int .i64 0, .int .i64 0, .string ⟨#[]⟩, .string ⟨#[]⟩, .string ⟨#[]⟩, .bool false, .int .i64 0] 29))
          have KS := hid (refsum_any (some ⟨w.heap.size + 1 + 1, 0, none⟩) cap stg w1 (by simpa using hcB) (by omega))
          rw [hCr] at KS
          have G1 := hid (show Below w.heap.size w w1 from below_step (by go_grown) (by go_size) hcb)
          have K0 := hid (show w1.heap[w.heap.size]? = some (.cells #[.int .i64 room, .int .i64 de, .int .i64 do_, .int .i64 du, .string sl, .string ss, .string st, .bool da, .int .i64 dc] 29 (0, 0)) from keep0 hcb (heapA (heap_new _ _)))
          have K1 := hid (show w1.heap[w.heap.size + 1]? = some (.cells #[.int .i64 0, .int .i64 0, .int .i64 0, .int .i64 0, .string ⟨#[]⟩, .string ⟨#[]⟩, .string ⟨#[]⟩, .bool false, .int .i64 0] 29 (0, 0)) from keep0 hcb heapN2)
          obtain ⟨⟨z0, z1, z2, z3, z4, z5, z6, z7, z8⟩, q0, q1, q2, q3, q4, q5, q6, q7, q8⟩ := nine K0.out
          clear hcb hcB hcz CV
          go_enter Tryd.func28, Tryd.ntmps28
          go_wp2_with (first | (go_at_call 20; with_reducible refine KS.out.mono ?_; rintro _ w2 ⟨rfl, rfl⟩) | (refine wpList_store_row rfl 29 _ _ rfl (w.heap.size + 1) #[.int .i64 room, .int .i64 de, .int .i64 do_, .int .i64 du, .string sl, .string ss, .string st, .bool da, .int .i64 dc] rfl rfl 29 _ K1.out (by kernel_rfl) rfl (by kernel_rfl) ?_))
          exact bodyPost_ret (v := .tuple #[.agg #[.int .i64 room, .int .i64 de, .int .i64 do_, .int .i64 du, .string sl, .string ss, .string st, .bool da, .int .i64 dc], .int .i64 151]) (results_row_tmp Tryd.results28 _ _ (w.heap.size + 1) 29 _ (0, 0) _ _ rfl rfl (setRow_heap _ _ _ _ _ _ K1.out) Tryd.underlying29 rfl (by kernel_rfl)) rfl ⟨rfl, below_setRow G1.out (by omega) _⟩
        · have h1 : (sl.size : Int) < from_ := by omega
          clear hbad
          obtain ⟨w1, cap, hcv, hcb, hcB, hcz⟩ := CV ((w.alloc (.cells #[.int .i64 room, .int .i64 de, .int .i64 do_, .int .i64 du, .string sl, .string ss, .string st, .bool da, .int .i64 dc] 29)).alloc (.cells #[.int .i64 0, .int .i64 0, .int .i64 0, .int .i64 0, .string ⟨#[]⟩, .string ⟨#[]⟩, .string ⟨#[]⟩, .bool false, .int .i64 0] 29))
          have KS := hid (refsum_any (some ⟨w.heap.size + 1 + 1, 0, none⟩) cap stg w1 (by simpa using hcB) (by omega))
          rw [hCr] at KS
          have G1 := hid (show Below w.heap.size w w1 from below_step (by go_grown) (by go_size) hcb)
          have K0 := hid (show w1.heap[w.heap.size]? = some (.cells #[.int .i64 room, .int .i64 de, .int .i64 do_, .int .i64 du, .string sl, .string ss, .string st, .bool da, .int .i64 dc] 29 (0, 0)) from keep0 hcb (heapA (heap_new _ _)))
          have K1 := hid (show w1.heap[w.heap.size + 1]? = some (.cells #[.int .i64 0, .int .i64 0, .int .i64 0, .int .i64 0, .string ⟨#[]⟩, .string ⟨#[]⟩, .string ⟨#[]⟩, .bool false, .int .i64 0] 29 (0, 0)) from keep0 hcb heapN2)
          obtain ⟨⟨z0, z1, z2, z3, z4, z5, z6, z7, z8⟩, q0, q1, q2, q3, q4, q5, q6, q7, q8⟩ := nine K0.out
          clear hcb hcB hcz CV
          go_enter Tryd.func28, Tryd.ntmps28
          go_wp2_with (first | (go_at_call 20; with_reducible refine KS.out.mono ?_; rintro _ w2 ⟨rfl, rfl⟩) | (refine wpList_store_row rfl 29 _ _ rfl (w.heap.size + 1) #[.int .i64 room, .int .i64 de, .int .i64 do_, .int .i64 du, .string sl, .string ss, .string st, .bool da, .int .i64 dc] rfl rfl 29 _ K1.out (by kernel_rfl) rfl (by kernel_rfl) ?_))
          exact bodyPost_ret (v := .tuple #[.agg #[.int .i64 room, .int .i64 de, .int .i64 do_, .int .i64 du, .string sl, .string ss, .string st, .bool da, .int .i64 dc], .int .i64 151]) (results_row_tmp Tryd.results28 _ _ (w.heap.size + 1) 29 _ (0, 0) _ _ rfl rfl (setRow_heap _ _ _ _ _ _ K1.out) Tryd.underlying29 rfl (by kernel_rfl)) rfl ⟨rfl, below_setRow G1.out (by omega) _⟩
      · rw [if_neg hbad] at hE
        rw [hE, if_pos rfl] at hD
        rw [hE, hD]
        obtain ⟨k, rfl⟩ := Int.eq_ofNat_of_zero_le (show 0 ≤ from_ by omega)
        have hk1 : ¬ ((str d.log).size : Int) < (k : Int) := by rw [hls]; omega
        have hk2 : k ≤ (str d.log).size := by omega
        have hex : (str d.log).extract k (str d.log).size = str (d.log.drop k) := str_drop _ _
        have hs0 : str [] = ⟨#[]⟩ := rfl
        rw [show ((k : Nat) : Int).toNat = k from rfl]
        simp only [rv]
        rw [hs0]
        subst hsum
        clear hE hD hls hl hbad hs0
        obtain ⟨stg, hstg⟩ : ∃ stg, stg = d.stg := ⟨_, rfl⟩
        rw [← hstg] at CV hs ⊢
        clear hstg
        obtain ⟨cr, hCr⟩ : ∃ cr, crc stg = cr := ⟨_, rfl⟩
        rw [hCr]
        generalize str stg = st at *
        generalize str (d.log.drop k) = sy at *
        generalize d.e = de at *
        generalize d.o = do_ at *
        generalize d.u = du at *
        generalize d.cut = dc at *
        generalize d.armed = da at *
        generalize d.room = room at *
        generalize str d.log = sl at *
        generalize str d.snap = ss at *
        obtain ⟨w1, cap, hcv, hcb, hcB, hcz⟩ := CV ((w.alloc (.cells #[.int .i64 room, .int .i64 de, .int .i64 do_, .int .i64 du, .string sl, .string ss, .string st, .bool da, .int .i64 dc] 29)).alloc (.cells #[.int .i64 0, .int .i64 0, .int .i64 0, .int .i64 0, .string ⟨#[]⟩, .string ⟨#[]⟩, .string ⟨#[]⟩, .bool false, .int .i64 0] 29))
        have KS := hid (refsum_any (some ⟨w.heap.size + 1 + 1, 0, none⟩) cap stg w1 (by simpa using hcB) (by omega))
        rw [hCr] at KS
        have G1 := hid (show Below w.heap.size w w1 from below_step (by go_grown) (by go_size) hcb)
        have K0 := hid (show w1.heap[w.heap.size]? = some (.cells #[.int .i64 room, .int .i64 de, .int .i64 do_, .int .i64 du, .string sl, .string ss, .string st, .bool da, .int .i64 dc] 29 (0, 0)) from keep0 hcb (heapA (heap_new _ _)))
        have K1 := hid (show w1.heap[w.heap.size + 1]? = some (.cells #[.int .i64 0, .int .i64 0, .int .i64 0, .int .i64 0, .string ⟨#[]⟩, .string ⟨#[]⟩, .string ⟨#[]⟩, .bool false, .int .i64 0] 29 (0, 0)) from keep0 hcb heapN2)
        obtain ⟨⟨z0, z1, z2, z3, z4, z5, z6, z7, z8⟩, q0, q1, q2, q3, q4, q5, q6, q7, q8⟩ := nine K0.out
        obtain ⟨w5, hw5⟩ : ∃ w5, w5 = ((w1.setCell ⟨w.heap.size, 5, none⟩ (.string st)).setCell ⟨w.heap.size, 6, none⟩ (.string ⟨#[]⟩)).setCell ⟨w.heap.size, 4, none⟩ (.string sy) := ⟨_, rfl⟩
        have K5 := hid (show w5.heap[w.heap.size + 1]? = some (.cells #[.int .i64 0, .int .i64 0, .int .i64 0, .int .i64 0, .string ⟨#[]⟩, .string ⟨#[]⟩, .string ⟨#[]⟩, .bool false, .int .i64 0] 29 (0, 0)) from by rw [hw5, heap_setCell_other _ _ _ _ (by simp only; omega), heap_setCell_other _ _ _ _ (by simp only; omega), heap_setCell_other _ _ _ _ (by simp only; omega), K1.out])
        have G5 := hid (show Below w.heap.size w w5 from by rw [hw5]; exact ((G1.out.setCell (p := ⟨w.heap.size, 5, none⟩) (Nat.le_refl _) _).setCell (p := ⟨w.heap.size, 6, none⟩) (Nat.le_refl _) _).setCell (p := ⟨w.heap.size, 4, none⟩) (Nat.le_refl _) _)
        have HW5 := hid hw5
        clear hcb hcB hcz CV hw5
        go_enter Tryd.func28, Tryd.ntmps28
        go_wp2_with (first | (go_at_call 20; with_reducible refine KS.out.mono ?_; rintro _ w2 ⟨rfl, rfl⟩) | (rw [← HW5.out]; refine wpList_store_row rfl 29 _ _ rfl (w.heap.size + 1) #[.int .i64 room, .int .i64 de, .int .i64 do_, .int .i64 du, .string sy, .string st, .string ⟨#[]⟩, .bool da, .int .i64 dc] rfl rfl 29 _ K5.out (by kernel_rfl) rfl (by kernel_rfl) ?_))
        exact bodyPost_ret (v := .tuple #[.agg #[.int .i64 room, .int .i64 de, .int .i64 do_, .int .i64 du, .string sy, .string st, .string ⟨#[]⟩, .bool da, .int .i64 dc], .int .i64 0]) (results_row_tmp Tryd.results28 _ _ (w.heap.size + 1) 29 _ (0, 0) _ _ rfl rfl (setRow_heap _ _ _ _ _ _ K5.out) Tryd.underlying29 rfl (by kernel_rfl)) rfl ⟨rfl, below_setRow G5.out (by omega) _⟩
    · rw [if_pos hsum] at hE
      rw [hE, if_neg (by decide)] at hD
      rw [hE, hD]
      simp only [rv]
      clear hE hD hls hl
      have hsum' : ((crc d.stg : Int) != sum) = true := by simpa using hsum
      clear hsum
      obtain ⟨stg, hstg⟩ : ∃ stg, stg = d.stg := ⟨_, rfl⟩
      rw [← hstg] at CV hs hsum' ⊢
      clear hstg
      obtain ⟨cr, hCr⟩ : ∃ cr, crc stg = cr := ⟨_, rfl⟩
      rw [hCr] at hsum'
      generalize str stg = st at *
      generalize d.e = de at *
      generalize d.o = do_ at *
      generalize d.u = du at *
      generalize d.cut = dc at *
      generalize d.armed = da at *
      generalize d.room = room at *
      generalize str d.log = sl at *
      generalize str d.snap = ss at *
      obtain ⟨w1, cap, hcv, hcb, hcB, hcz⟩ := CV ((w.alloc (.cells #[.int .i64 room, .int .i64 de, .int .i64 do_, .int .i64 du, .string sl, .string ss, .string st, .bool da, .int .i64 dc] 29)).alloc (.cells #[.int .i64 0, .int .i64 0, .int .i64 0, .int .i64 0, .string ⟨#[]⟩, .string ⟨#[]⟩, .string ⟨#[]⟩, .bool false, .int .i64 0] 29))
      have KS := hid (refsum_any (some ⟨w.heap.size + 1 + 1, 0, none⟩) cap stg w1 (by simpa using hcB) (by omega))
      rw [hCr] at KS
      have G1 := hid (show Below w.heap.size w w1 from below_step (by go_grown) (by go_size) hcb)
      have K0 := hid (show w1.heap[w.heap.size]? = some (.cells #[.int .i64 room, .int .i64 de, .int .i64 do_, .int .i64 du, .string sl, .string ss, .string st, .bool da, .int .i64 dc] 29 (0, 0)) from keep0 hcb (heapA (heap_new _ _)))
      have K1 := hid (show w1.heap[w.heap.size + 1]? = some (.cells #[.int .i64 0, .int .i64 0, .int .i64 0, .int .i64 0, .string ⟨#[]⟩, .string ⟨#[]⟩, .string ⟨#[]⟩, .bool false, .int .i64 0] 29 (0, 0)) from keep0 hcb heapN2)
      obtain ⟨⟨z0, z1, z2, z3, z4, z5, z6, z7, z8⟩, q0, q1, q2, q3, q4, q5, q6, q7, q8⟩ := nine K0.out
      clear hcb hcB hcz CV
      go_enter Tryd.func28, Tryd.ntmps28
      go_wp2_with (first | (go_at_call 20; with_reducible refine KS.out.mono ?_; rintro _ w2 ⟨rfl, rfl⟩) | (refine wpList_store_row rfl 29 _ _ rfl (w.heap.size + 1) #[.int .i64 room, .int .i64 de, .int .i64 do_, .int .i64 du, .string sl, .string ss, .string st, .bool da, .int .i64 dc] rfl rfl 29 _ K1.out (by kernel_rfl) rfl (by kernel_rfl) ?_))
      exact bodyPost_ret (v := .tuple #[.agg #[.int .i64 room, .int .i64 de, .int .i64 do_, .int .i64 du, .string sl, .string ss, .string st, .bool da, .int .i64 dc], .int .i64 20]) (results_row_tmp Tryd.results28 _ _ (w.heap.size + 1) 29 _ (0, 0) _ _ rfl rfl (setRow_heap _ _ _ _ _ _ K1.out) Tryd.underlying29 rfl (by kernel_rfl)) rfl ⟨rfl, below_setRow G1.out (by omega) _⟩
  · rw [if_pos he] at hE
    rw [hE, if_neg (by decide)] at hD
    rw [hE, hD]
    have he' : (ep != d.e) = true := by simpa using he
    clear hE hD he hls hl CV
    simp only [rv]
    generalize d.e = de at *
    generalize d.o = do_ at *
    generalize d.u = du at *
    generalize d.cut = dc at *
    generalize d.armed = da at *
    generalize d.room = room at *
    generalize str d.log = sl at *
    generalize str d.snap = ss at *
    generalize str d.stg = st at *
    go_enter Tryd.func28, Tryd.ntmps28
    go_wp2_with fail
    all_goals go_returns
    all_goals exact ⟨rfl, by go_grown⟩
end Go.Proofs.YtbpgeghenninnaaDoor
