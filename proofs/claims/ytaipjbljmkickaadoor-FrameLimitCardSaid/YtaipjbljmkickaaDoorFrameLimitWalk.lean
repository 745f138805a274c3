/- The Go function FrameLimit, called with any arguments, returns true and leaves all that was there. Condition: the table stands as the rows list it. -/
import Derived.Test.YtaipjbljmkickaaDoorOpen
import Derived.Deep.DeepCutAuto
namespace Go.Proofs.YtaipjbljmkickaaDoor
open Go Go.ChangeShapes Go.WideShapes Go.RowKit
theorem nextS_lim (c : UInt8) : (nextS [0, 1, 0, 1, c, c, c, c, c]).1 = 11 := by
  unfold nextS
  rw [if_neg (by simp), if_pos (by simp [num4])]
theorem nextS_lim0 (c : UInt8) : (nextS [0, 1, 0, 0, c, c, c, c, c]).1 = 10 := by
  unfold nextS
  rw [if_neg (by simp), if_neg (by simp [num4]), if_pos (by simp [num4])]
theorem bv_all {n : Int} (h : 0 ≤ n ∧ n ≤ 255) : Value.int .u8 n = bv (UInt8.ofNat n.toNat) := by
  unfold bv
  rw [ofNat_toNat_lt (by omega)]
  congr 1
  omega
theorem made_cell (n j : Nat) (h : j < n) : (madeCells #[.int .u8 0] n)[j]? = some (.int .u8 0) := by
  rw [← Array.getElem?_toList, toList_madeCells_one, List.getElem?_replicate, if_pos h]
theorem made_bts (t : Int) (c : UInt8) (hbt : Value.int .u8 t = bv c) (n : Nat) : ∃ B : List UInt8, B.length = n ∧ Hid (∀ w : World, Bts (w.alloc (.cells ((madeCells #[.int .u8 0] n).setIfInBounds 0 (.int .u8 t)) 5)) (some ⟨w.heap.size, 0, none⟩) B) := by
  refine ⟨(List.replicate n (0 : UInt8)).set 0 c, by simp, hid fun w => .inr ⟨w.heap.size, 0, rfl, by simp, fun j x hx => ?_⟩⟩
  rw [cell_of (heap_new w _), Nat.zero_add, Array.getElem?_setIfInBounds]
  have hj : j < n := by
    have := (List.getElem?_eq_some_iff.1 hx).1
    simpa using this
  rw [List.getElem?_set] at hx
  split at hx
  · rename_i h0
    subst h0
    rw [if_pos rfl, size_madeCells]
    split at hx
    · rw [if_pos (by simpa using hj), ← Option.some.inj hx, hbt]
    · cases hx
  · rename_i h0
    rw [if_neg h0, made_cell n j hj]
    rw [List.getElem?_replicate, if_pos hj] at hx
    rw [← Option.some.inj hx]
    rfl
set_option maxRecDepth 10000 in
set_option maxHeartbeats 2000000 in
theorem frameLimit_walk {H : Type} {enc : TypeId × Value → H} (W : World) (base : Nat) (args : Array Value) (ds : List (DataW H))
    (hval : ∀ (j : Nat) t v, Tryd.f8.params[j]? = some t → args[j]? = some v → Value.okWide Tryd.prog W .any base t v)
    (hA : ∃ p, DataW.TrodAll enc Tryd.prog W 0 (fun _ => true) true Tryd.f8.params.toList args.toList ds p) 
    (_ : (DataW.weightsEach Tryd.prog (Tryd.f8.params.toList ++ (OpenSpec.ofChange Rows.frameLimitSpec).bare.plain.varTypes Tryd.prog) (ds ++ [])).all (· ≤ reachBytes) = true)
    (hL : laidMetH Tryd.prog Rows.frameLimitRow.laid W) (_ : W.ShapedOpen Tryd.prog) :
    Calls Tryd.prog 8 args W fun e W' => e = .returned (.bool true) ∧ Below W.heap.size W W' := by
  obtain ⟨p, hA⟩ := hA
  rw [Tryd.params8] at hA hval
  obtain ⟨v0, v1, d0, d1, p0, p1, hargs, rfl, rfl, h0, h1⟩ := trodAll_two hA
  subst hargs
  obtain ⟨a, rfl, _, _, wa⟩ := open_int Tryd.underlying3 (hval 0 3 v0 rfl rfl) h0
  obtain ⟨t, rfl, _, _, wt⟩ := open_int Tryd.underlying5 (hval 1 5 v1 rfl rfl) h1
  have wt' := wf_u8 wt
  clear h0 h1 hval hA wa wt
  have hT := tab_of hL
  have HT := hid hT
  clear hT
  obtain ⟨c, hc⟩ : ∃ c, c = UInt8.ofNat t.toNat := ⟨_, rfl⟩
  have hbt : Value.int .u8 t = bv c := by rw [hc]; exact bv_all wt'
  have HBT := hid hbt
  clear hc
  by_cases hm : (a.tmod 4 != 0) = true
  · have hmk : Hid (∀ w, (Instr.makeSlice 22 (.int .i64 65537) (.int .i64 65537)).run Tryd.prog w = .ok (.slice (some ⟨w.heap.size, 0, none⟩) 65537 65537) (w.alloc (.cells (madeCells #[.int .u8 0] 65537) 5))) := hid fun w => make_bytes 65537 65537 (Nat.le_refl _) (by omega) w
    obtain ⟨B, _, HBTS⟩ : ∃ B : List UInt8, B.length = 65537 ∧ Hid (∀ w : World, Bts (w.alloc (.cells ((madeCells #[.int .u8 0] 65537).setIfInBounds 0 (.int .u8 t)) 5)) (some ⟨w.heap.size, 0, none⟩) B) := made_bts t c hbt 65537
    have HC0 := hid (made_cell 65537 0 (by omega))
    generalize madeCells #[.int .u8 0] 65537 = C at *
    clear hbt
    go_enter Tryd.func8, Tryd.ntmps8
    go_wp2_with fail
    refine (awake_any _ HT.out).mono ?_
    rintro _ w1 ⟨rfl, hbb⟩
    have g1 := hid hbb
    clear hbb
    have hmk1 := hmk.out w1
    have hC1 := hid (heap_new w1 (.cells C 5))
    have c0 : (w1.alloc (.cells C 5)).cell? ⟨w1.heap.size, 0, none⟩ = some (.int .u8 0) := (cell_of hC1.out 0).trans HC0.out
    have f0 : (w1.alloc (.cells C 5)).frozen? ⟨w1.heap.size, 0, none⟩ = false := free_of hC1.out 0
    have g2 := hid (g1.out.alloc g1.out.size (.cells (C.setIfInBounds 0 (.int .u8 t)) 5))
    have hb2 := hid (HBTS.out w1)
    go_wp2_with fail
    have K := hid (frame_long (some ⟨w1.heap.size, 0, none⟩) 65537 65537 (w1.alloc (.cells (C.setIfInBounds 0 (.int .u8 t)) 5)) (by omega))
    refine K.out.mono ?_
    rintro _ w3 ⟨rfl, rfl⟩
    have g3 := hid g2.out
    generalize (w1.alloc (.cells (C.setIfInBounds 0 (.int .u8 t)) 5)) = w3 at *
    clear K
    have g4 := hid (g3.out.alloc g3.out.size (.cells #[.int .u8 0, .int .u8 1, .int .u8 0, .int .u8 1, .int .u8 t, .int .u8 t, .int .u8 t, .int .u8 t, .int .u8 t] 5))
    have K4 := hid (next_no (some ⟨w3.heap.size, 0, none⟩) 9 11 [0, 1, 0, 1, c, c, c, c, c] _ (new_bts (w := w3) #[.int .u8 0, .int .u8 1, .int .u8 0, .int .u8 1, .int .u8 t, .int .u8 t, .int .u8 t, .int .u8 t, .int .u8 t] _ (0, 0) (by rw [HBT.out]; rfl)) (by simp) (tab_below HT.out g4.out) (by simp) (nextS_lim c) (by decide))
    go_wp2_with fail
    refine K4.out.mono ?_
    rintro _ w5 ⟨rfl, hbb⟩
    have g5 := hid (below_step g4.out g4.out.size hbb)
    clear hbb K4
    have g6 := hid (g5.out.alloc g5.out.size (.cells #[.int .u8 0, .int .u8 1, .int .u8 0, .int .u8 0, .int .u8 t, .int .u8 t, .int .u8 t, .int .u8 t, .int .u8 t] 5))
    have K5 := hid (next_no (some ⟨w5.heap.size, 0, none⟩) 9 10 [0, 1, 0, 0, c, c, c, c, c] _ (new_bts (w := w5) #[.int .u8 0, .int .u8 1, .int .u8 0, .int .u8 0, .int .u8 t, .int .u8 t, .int .u8 t, .int .u8 t, .int .u8 t] _ (0, 0) (by rw [HBT.out]; rfl)) (by simp) (tab_below HT.out g6.out) (by simp) (nextS_lim0 c) (by decide))
    go_wp2_with fail
    refine K5.out.mono ?_
    rintro _ w7 ⟨rfl, hbb⟩
    have g7 := hid (below_step g6.out g6.out.size hbb)
    clear hbb K5
    go_wp2_with fail
    all_goals go_returns
    all_goals exact ⟨by first | rfl | simp, g7.out⟩
  · have hm' : (a.tmod 4 != 0) = false := by simpa using hm
    have hmk : Hid (∀ w, (Instr.makeSlice 22 (.int .i64 65536) (.int .i64 65536)).run Tryd.prog w = .ok (.slice (some ⟨w.heap.size, 0, none⟩) 65536 65536) (w.alloc (.cells (madeCells #[.int .u8 0] 65536) 5))) := hid fun w => make_bytes 65536 65536 (Nat.le_refl _) (by omega) w
    obtain ⟨B, hBl, HBTS⟩ : ∃ B : List UInt8, B.length = 65536 ∧ Hid (∀ w : World, Bts (w.alloc (.cells ((madeCells #[.int .u8 0] 65536).setIfInBounds 0 (.int .u8 t)) 5)) (some ⟨w.heap.size, 0, none⟩) B) := made_bts t c hbt 65536
    have HC0 := hid (made_cell 65536 0 (by omega))
    generalize madeCells #[.int .u8 0] 65536 = C at *
    clear hbt hm
    go_enter Tryd.func8, Tryd.ntmps8
    go_wp2_with fail
    refine (awake_any _ HT.out).mono ?_
    rintro _ w1 ⟨rfl, hbb⟩
    have g1 := hid hbb
    clear hbb
    have hmk1 := hmk.out w1
    have hC1 := hid (heap_new w1 (.cells C 5))
    have c0 : (w1.alloc (.cells C 5)).cell? ⟨w1.heap.size, 0, none⟩ = some (.int .u8 0) := (cell_of hC1.out 0).trans HC0.out
    have f0 : (w1.alloc (.cells C 5)).frozen? ⟨w1.heap.size, 0, none⟩ = false := free_of hC1.out 0
    have g2 := hid (g1.out.alloc g1.out.size (.cells (C.setIfInBounds 0 (.int .u8 t)) 5))
    have hb2 := hid (HBTS.out w1)
    go_wp2_with fail
    have K := hid (frame_any (some ⟨w1.heap.size, 0, none⟩) 65536 B _ ⟨hb2.out, by omega, fun e => by cases e⟩ (tab_below HT.out g2.out) (by omega))
    rw [hBl] at K
    refine K.out.mono ?_
    rintro _ w3 ⟨v3, rfl, ho3, hbb⟩
    obtain ⟨A3, c3, rfl, _, _, _⟩ := ho3.is
    rw [frameB_len, hBl]
    have g3 := hid (below_step g2.out g2.out.size hbb)
    clear ho3 hbb K
    have g4 := hid (g3.out.alloc g3.out.size (.cells #[.int .u8 0, .int .u8 1, .int .u8 0, .int .u8 1, .int .u8 t, .int .u8 t, .int .u8 t, .int .u8 t, .int .u8 t] 5))
    have K4 := hid (next_no (some ⟨w3.heap.size, 0, none⟩) 9 11 [0, 1, 0, 1, c, c, c, c, c] _ (new_bts (w := w3) #[.int .u8 0, .int .u8 1, .int .u8 0, .int .u8 1, .int .u8 t, .int .u8 t, .int .u8 t, .int .u8 t, .int .u8 t] _ (0, 0) (by rw [HBT.out]; rfl)) (by simp) (tab_below HT.out g4.out) (by simp) (nextS_lim c) (by decide))
    go_wp2_with fail
    refine K4.out.mono ?_
    rintro _ w5 ⟨rfl, hbb⟩
    have g5 := hid (below_step g4.out g4.out.size hbb)
    clear hbb K4
    have g6 := hid (g5.out.alloc g5.out.size (.cells #[.int .u8 0, .int .u8 1, .int .u8 0, .int .u8 0, .int .u8 t, .int .u8 t, .int .u8 t, .int .u8 t, .int .u8 t] 5))
    have K5 := hid (next_no (some ⟨w5.heap.size, 0, none⟩) 9 10 [0, 1, 0, 0, c, c, c, c, c] _ (new_bts (w := w5) #[.int .u8 0, .int .u8 1, .int .u8 0, .int .u8 0, .int .u8 t, .int .u8 t, .int .u8 t, .int .u8 t, .int .u8 t] _ (0, 0) (by rw [HBT.out]; rfl)) (by simp) (tab_below HT.out g6.out) (by simp) (nextS_lim0 c) (by decide))
    go_wp2_with fail
    refine K5.out.mono ?_
    rintro _ w7 ⟨rfl, hbb⟩
    have g7 := hid (below_step g6.out g6.out.size hbb)
    clear hbb K5
    go_wp2_with fail
    all_goals go_returns
    all_goals exact ⟨by first | rfl | simp, g7.out⟩
end Go.Proofs.YtaipjbljmkickaaDoor
