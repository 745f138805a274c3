/- The Go function LifeRights, called with any life, returns true and leaves all that was there. Condition: the two package-level tables of life stand as the row lists them. -/
import Derived.Test.YtlfbooillhleoaaDoorKeep
import Derived.Test.YtlfbooillhleoaaDoorRRight
import Derived.Deep.RegionHeld3
import Derived.Test.YtlfbooillhleoaaDoorRows
import Derived.Test.YtlfbooillhleoaaDoorTab
import Derived.Test.YtlfbooillhleoaaDoorOpen
import Derived.ProofKit
namespace Go.Proofs.YtlfbooillhleoaaDoor
open Go Go.ChangeShapes Go.WideShapes Go.RowKit
set_option maxRecDepth 100000 in
set_option maxHeartbeats 8000000 in
theorem lifeRights_walk {H : Type} {enc : TypeId × Value → H} (W : World) (base : Nat) (args : Array Value) (ds : List (DataW H))
    (hval : ∀ (j : Nat) t v, Tryd.f4.params[j]? = some t → args[j]? = some v → Value.okWide Tryd.prog W .any base t v)
    (hA : ∃ p, DataW.TrodAll enc Tryd.prog W 0 (fun _ => true) true Tryd.f4.params.toList args.toList ds p)
    (_ : (DataW.weightsEach Tryd.prog (Tryd.f4.params.toList ++ (OpenSpec.ofChange Rows.lifeRightsSpec).bare.plain.varTypes Tryd.prog) (ds ++ [])).all (· ≤ reachBytes) = true)
    (hL : laidMetH Tryd.prog Rows.lifeRightsRow.laid W) (_ : W.ShapedOpen Tryd.prog) :
    Calls Tryd.prog 4 args W fun e W' => e = .returned (.bool true) ∧ Below W.heap.size W W' := by
  have hT : Tab W := tab_of hL
  obtain ⟨p, hA⟩ := hA
  rw [Tryd.params4] at hA hval
  obtain ⟨v0, d0, hargs, rfl, h0⟩ := trodAll_one hA
  subst hargs
  obtain ⟨s, a, l, b, t, rfl⟩ := life_is (hval 0 24 v0 rfl rfl) h0
  clear hval hL hA h0
  generalize hB : rightB s a l b t = B
  generalize hO : overB s = O
  generalize hV : liveB s = V
  have k9 : ∀ w, Below W.heap.size W w → Calls Tryd.prog 9 #[] w fun e w' => e = .returned (.bool true) ∧ Below w.heap.size w w' := fun w hw => awake_any w (hT.below hw)
  have k13 : ∀ w, Below W.heap.size W w → Calls Tryd.prog 13 #[.agg #[.int .i64 s, .int .i64 a, .int .i64 l, .bool b, .bool t]] w fun e w' => e = .returned (.bool B) ∧ w.alloc (.cells #[.int .i64 s, .int .i64 a, .int .i64 l, .bool b, .bool t] 24) = w' := fun w hw => by rw [← hB]; exact right_any s a l b t w (hT.below hw)
  have k14 : ∀ w, Calls Tryd.prog 14 #[.agg #[.int .i64 s, .int .i64 a, .int .i64 l, .bool b, .bool t]] w fun e w' => e = .returned (.bool B) ∧ w.alloc (.cells #[.int .i64 s, .int .i64 a, .int .i64 l, .bool b, .bool t] 24) = w' := fun w => by rw [← hB]; exact rright_any s a l b t w
  have k15 : ∀ w, Calls Tryd.prog 15 #[.int .i64 s] w fun e w' => e = .returned (.bool O) ∧ w = w' := fun w => by rw [← hO]; exact over_any s w
  have k16 : ∀ w, Calls Tryd.prog 16 #[.int .i64 s] w fun e w' => e = .returned (.bool O) ∧ w = w' := fun w => by rw [← hO]; exact rover_any s w
  have k17 : ∀ w, Calls Tryd.prog 17 #[.int .i64 s] w fun e w' => e = .returned (.bool V) ∧ w = w' := fun w => by rw [← hV]; exact live_any s w
  have k18 : ∀ w, Calls Tryd.prog 18 #[.int .i64 s] w fun e w' => e = .returned (.bool V) ∧ w = w' := fun w => by rw [← hV]; exact rlive_any s w
  have HT := hid hT
  have K9 := hid k9
  have K13 := hid k13
  have K14 := hid k14
  have K15 := hid k15
  have K16 := hid k16
  have K17 := hid k17
  have K18 := hid k18
  clear hB hO hV k9 k13 k14 k15 k16 k17 k18 hT
  rcases (by omega : s = 1 ∨ s = 2 ∨ s = 3 ∨ s = 4 ∨ s = 5 ∨ s = 6 ∨ s = 7 ∨ s = 8 ∨ s < 1 ∨ 8 < s) with rfl | rfl | rfl | rfl | rfl | rfl | rfl | rfl | hs | hs
  · have k19 : ∀ w, Below W.heap.size W w → Calls Tryd.prog 19 #[.int .i64 1] w fun e w' => e = .returned (.string ⟨#[112, 101, 110, 100, 105, 110, 103]⟩) ∧ w = w' := fun w hw => name_in 1 w (HT.out.below hw) (by omega) (by omega)
    have K19 := hid k19
    clear k19 HT
    go_enter Tryd.func4, Tryd.ntmps4
    go_wp2_with (first | (go_at_call 9; refine (K9.out _ (by go_grown)).mono ?_; rintro e w1 ⟨rfl, hb1⟩; have hg1 := hid (below_step (B := W.heap.size) (w := W) (by go_grown) (by go_size) hb1); have L1 := newA hb1; have L2 := five L1; have zL := lt_of L1; have zL1 : W.heap.size < w1.heap.size + 1 := (by omega); have zL2 : W.heap.size < w1.heap.size + 1 + 1 := (by omega); clear hb1 L1; obtain ⟨cL0, cL1, cL2, cL3, cL4⟩ := L2) | (go_at_call 12; go_in))
    go_region_held3 (fun w' => w'.cell? ⟨W.heap.size, 0, none⟩ = some (.int .i64 1) ∧ w'.cell? ⟨W.heap.size, 1, none⟩ = some (.int .i64 a) ∧ w'.cell? ⟨W.heap.size, 2, none⟩ = some (.int .i64 l) ∧ w'.cell? ⟨W.heap.size, 3, none⟩ = some (.bool b) ∧ w'.cell? ⟨W.heap.size, 4, none⟩ = some (.bool t)) (first | exact ⟨cL0, cL1, cL2, cL3, cL4⟩ | (refine ⟨?_, ?_, ?_, ?_, ?_⟩ <;> simp [World.cell?_alloc_past, go_sem, zL, zL1, zL2, cL0, cL1, cL2, cL3, cL4]) | go_keep)
      (first | (go_at_call 13; refine (K13.out _ ?_).mono ?_; (have hg := hg1.out; have := hg.size; go_grown); rintro e w2 ⟨rfl, rfl⟩) | (go_at_call 14; refine (K14.out _).mono ?_; rintro e w2 ⟨rfl, rfl⟩) | (go_at_call 15; refine (K15.out _).mono ?_; rintro e w2 ⟨rfl, rfl⟩) | (go_at_call 16; refine (K16.out _).mono ?_; rintro e w2 ⟨rfl, rfl⟩) | (go_at_call 17; refine (K17.out _).mono ?_; rintro e w2 ⟨rfl, rfl⟩) | (go_at_call 18; refine (K18.out _).mono ?_; rintro e w2 ⟨rfl, rfl⟩) | (go_at_call 19; refine (K19.out _ ?_).mono ?_; (have hg := hg1.out; have := hg.size; go_grown); rintro e w2 ⟨rfl, rfl⟩))
    all_goals go_wp2
    all_goals go_returns
    all_goals exact ⟨by simp, by have hg := hg1.out; have := hg.size; go_grown⟩
  · have k19 : ∀ w, Below W.heap.size W w → Calls Tryd.prog 19 #[.int .i64 2] w fun e w' => e = .returned (.string ⟨#[104, 101, 108, 100]⟩) ∧ w = w' := fun w hw => name_in 2 w (HT.out.below hw) (by omega) (by omega)
    have K19 := hid k19
    clear k19 HT
    go_enter Tryd.func4, Tryd.ntmps4
    go_wp2_with (first | (go_at_call 9; refine (K9.out _ (by go_grown)).mono ?_; rintro e w1 ⟨rfl, hb1⟩; have hg1 := hid (below_step (B := W.heap.size) (w := W) (by go_grown) (by go_size) hb1); have L1 := newA hb1; have L2 := five L1; have zL := lt_of L1; have zL1 : W.heap.size < w1.heap.size + 1 := (by omega); have zL2 : W.heap.size < w1.heap.size + 1 + 1 := (by omega); clear hb1 L1; obtain ⟨cL0, cL1, cL2, cL3, cL4⟩ := L2) | (go_at_call 12; go_in))
    go_region_held3 (fun w' => w'.cell? ⟨W.heap.size, 0, none⟩ = some (.int .i64 2) ∧ w'.cell? ⟨W.heap.size, 1, none⟩ = some (.int .i64 a) ∧ w'.cell? ⟨W.heap.size, 2, none⟩ = some (.int .i64 l) ∧ w'.cell? ⟨W.heap.size, 3, none⟩ = some (.bool b) ∧ w'.cell? ⟨W.heap.size, 4, none⟩ = some (.bool t)) (first | exact ⟨cL0, cL1, cL2, cL3, cL4⟩ | (refine ⟨?_, ?_, ?_, ?_, ?_⟩ <;> simp [World.cell?_alloc_past, go_sem, zL, zL1, zL2, cL0, cL1, cL2, cL3, cL4]) | go_keep)
      (first | (go_at_call 13; refine (K13.out _ ?_).mono ?_; (have hg := hg1.out; have := hg.size; go_grown); rintro e w2 ⟨rfl, rfl⟩) | (go_at_call 14; refine (K14.out _).mono ?_; rintro e w2 ⟨rfl, rfl⟩) | (go_at_call 15; refine (K15.out _).mono ?_; rintro e w2 ⟨rfl, rfl⟩) | (go_at_call 16; refine (K16.out _).mono ?_; rintro e w2 ⟨rfl, rfl⟩) | (go_at_call 17; refine (K17.out _).mono ?_; rintro e w2 ⟨rfl, rfl⟩) | (go_at_call 18; refine (K18.out _).mono ?_; rintro e w2 ⟨rfl, rfl⟩) | (go_at_call 19; refine (K19.out _ ?_).mono ?_; (have hg := hg1.out; have := hg.size; go_grown); rintro e w2 ⟨rfl, rfl⟩))
    all_goals go_wp2
    all_goals go_returns
    all_goals exact ⟨by simp, by have hg := hg1.out; have := hg.size; go_grown⟩
  · have k19 : ∀ w, Below W.heap.size W w → Calls Tryd.prog 19 #[.int .i64 3] w fun e w' => e = .returned (.string ⟨#[114, 117, 110, 110, 105, 110, 103]⟩) ∧ w = w' := fun w hw => name_in 3 w (HT.out.below hw) (by omega) (by omega)
    have K19 := hid k19
    clear k19 HT
    go_enter Tryd.func4, Tryd.ntmps4
    go_wp2_with (first | (go_at_call 9; refine (K9.out _ (by go_grown)).mono ?_; rintro e w1 ⟨rfl, hb1⟩; have hg1 := hid (below_step (B := W.heap.size) (w := W) (by go_grown) (by go_size) hb1); have L1 := newA hb1; have L2 := five L1; have zL := lt_of L1; have zL1 : W.heap.size < w1.heap.size + 1 := (by omega); have zL2 : W.heap.size < w1.heap.size + 1 + 1 := (by omega); clear hb1 L1; obtain ⟨cL0, cL1, cL2, cL3, cL4⟩ := L2) | (go_at_call 12; go_in))
    go_region_held3 (fun w' => w'.cell? ⟨W.heap.size, 0, none⟩ = some (.int .i64 3) ∧ w'.cell? ⟨W.heap.size, 1, none⟩ = some (.int .i64 a) ∧ w'.cell? ⟨W.heap.size, 2, none⟩ = some (.int .i64 l) ∧ w'.cell? ⟨W.heap.size, 3, none⟩ = some (.bool b) ∧ w'.cell? ⟨W.heap.size, 4, none⟩ = some (.bool t)) (first | exact ⟨cL0, cL1, cL2, cL3, cL4⟩ | (refine ⟨?_, ?_, ?_, ?_, ?_⟩ <;> simp [World.cell?_alloc_past, go_sem, zL, zL1, zL2, cL0, cL1, cL2, cL3, cL4]) | go_keep)
      (first | (go_at_call 13; refine (K13.out _ ?_).mono ?_; (have hg := hg1.out; have := hg.size; go_grown); rintro e w2 ⟨rfl, rfl⟩) | (go_at_call 14; refine (K14.out _).mono ?_; rintro e w2 ⟨rfl, rfl⟩) | (go_at_call 15; refine (K15.out _).mono ?_; rintro e w2 ⟨rfl, rfl⟩) | (go_at_call 16; refine (K16.out _).mono ?_; rintro e w2 ⟨rfl, rfl⟩) | (go_at_call 17; refine (K17.out _).mono ?_; rintro e w2 ⟨rfl, rfl⟩) | (go_at_call 18; refine (K18.out _).mono ?_; rintro e w2 ⟨rfl, rfl⟩) | (go_at_call 19; refine (K19.out _ ?_).mono ?_; (have hg := hg1.out; have := hg.size; go_grown); rintro e w2 ⟨rfl, rfl⟩))
    all_goals go_wp2
    all_goals go_returns
    all_goals exact ⟨by simp, by have hg := hg1.out; have := hg.size; go_grown⟩
  · have k19 : ∀ w, Below W.heap.size W w → Calls Tryd.prog 19 #[.int .i64 4] w fun e w' => e = .returned (.string ⟨#[101, 110, 100, 105, 110, 103]⟩) ∧ w = w' := fun w hw => name_in 4 w (HT.out.below hw) (by omega) (by omega)
    have K19 := hid k19
    clear k19 HT
    go_enter Tryd.func4, Tryd.ntmps4
    go_wp2_with (first | (go_at_call 9; refine (K9.out _ (by go_grown)).mono ?_; rintro e w1 ⟨rfl, hb1⟩; have hg1 := hid (below_step (B := W.heap.size) (w := W) (by go_grown) (by go_size) hb1); have L1 := newA hb1; have L2 := five L1; have zL := lt_of L1; have zL1 : W.heap.size < w1.heap.size + 1 := (by omega); have zL2 : W.heap.size < w1.heap.size + 1 + 1 := (by omega); clear hb1 L1; obtain ⟨cL0, cL1, cL2, cL3, cL4⟩ := L2) | (go_at_call 12; go_in))
    go_region_held3 (fun w' => w'.cell? ⟨W.heap.size, 0, none⟩ = some (.int .i64 4) ∧ w'.cell? ⟨W.heap.size, 1, none⟩ = some (.int .i64 a) ∧ w'.cell? ⟨W.heap.size, 2, none⟩ = some (.int .i64 l) ∧ w'.cell? ⟨W.heap.size, 3, none⟩ = some (.bool b) ∧ w'.cell? ⟨W.heap.size, 4, none⟩ = some (.bool t)) (first | exact ⟨cL0, cL1, cL2, cL3, cL4⟩ | (refine ⟨?_, ?_, ?_, ?_, ?_⟩ <;> simp [World.cell?_alloc_past, go_sem, zL, zL1, zL2, cL0, cL1, cL2, cL3, cL4]) | go_keep)
      (first | (go_at_call 13; refine (K13.out _ ?_).mono ?_; (have hg := hg1.out; have := hg.size; go_grown); rintro e w2 ⟨rfl, rfl⟩) | (go_at_call 14; refine (K14.out _).mono ?_; rintro e w2 ⟨rfl, rfl⟩) | (go_at_call 15; refine (K15.out _).mono ?_; rintro e w2 ⟨rfl, rfl⟩) | (go_at_call 16; refine (K16.out _).mono ?_; rintro e w2 ⟨rfl, rfl⟩) | (go_at_call 17; refine (K17.out _).mono ?_; rintro e w2 ⟨rfl, rfl⟩) | (go_at_call 18; refine (K18.out _).mono ?_; rintro e w2 ⟨rfl, rfl⟩) | (go_at_call 19; refine (K19.out _ ?_).mono ?_; (have hg := hg1.out; have := hg.size; go_grown); rintro e w2 ⟨rfl, rfl⟩))
    all_goals go_wp2
    all_goals go_returns
    all_goals exact ⟨by simp, by have hg := hg1.out; have := hg.size; go_grown⟩
  · have k19 : ∀ w, Below W.heap.size W w → Calls Tryd.prog 19 #[.int .i64 5] w fun e w' => e = .returned (.string ⟨#[100, 111, 110, 101]⟩) ∧ w = w' := fun w hw => name_in 5 w (HT.out.below hw) (by omega) (by omega)
    have K19 := hid k19
    clear k19 HT
    go_enter Tryd.func4, Tryd.ntmps4
    go_wp2_with (first | (go_at_call 9; refine (K9.out _ (by go_grown)).mono ?_; rintro e w1 ⟨rfl, hb1⟩; have hg1 := hid (below_step (B := W.heap.size) (w := W) (by go_grown) (by go_size) hb1); have L1 := newA hb1; have L2 := five L1; have zL := lt_of L1; have zL1 : W.heap.size < w1.heap.size + 1 := (by omega); have zL2 : W.heap.size < w1.heap.size + 1 + 1 := (by omega); clear hb1 L1; obtain ⟨cL0, cL1, cL2, cL3, cL4⟩ := L2) | (go_at_call 12; go_in))
    go_region_held3 (fun w' => w'.cell? ⟨W.heap.size, 0, none⟩ = some (.int .i64 5) ∧ w'.cell? ⟨W.heap.size, 1, none⟩ = some (.int .i64 a) ∧ w'.cell? ⟨W.heap.size, 2, none⟩ = some (.int .i64 l) ∧ w'.cell? ⟨W.heap.size, 3, none⟩ = some (.bool b) ∧ w'.cell? ⟨W.heap.size, 4, none⟩ = some (.bool t)) (first | exact ⟨cL0, cL1, cL2, cL3, cL4⟩ | (refine ⟨?_, ?_, ?_, ?_, ?_⟩ <;> simp [World.cell?_alloc_past, go_sem, zL, zL1, zL2, cL0, cL1, cL2, cL3, cL4]) | go_keep)
      (first | (go_at_call 13; refine (K13.out _ ?_).mono ?_; (have hg := hg1.out; have := hg.size; go_grown); rintro e w2 ⟨rfl, rfl⟩) | (go_at_call 14; refine (K14.out _).mono ?_; rintro e w2 ⟨rfl, rfl⟩) | (go_at_call 15; refine (K15.out _).mono ?_; rintro e w2 ⟨rfl, rfl⟩) | (go_at_call 16; refine (K16.out _).mono ?_; rintro e w2 ⟨rfl, rfl⟩) | (go_at_call 17; refine (K17.out _).mono ?_; rintro e w2 ⟨rfl, rfl⟩) | (go_at_call 18; refine (K18.out _).mono ?_; rintro e w2 ⟨rfl, rfl⟩) | (go_at_call 19; refine (K19.out _ ?_).mono ?_; (have hg := hg1.out; have := hg.size; go_grown); rintro e w2 ⟨rfl, rfl⟩))
    all_goals go_wp2
    all_goals go_returns
    all_goals exact ⟨by simp, by have hg := hg1.out; have := hg.size; go_grown⟩
  · have k19 : ∀ w, Below W.heap.size W w → Calls Tryd.prog 19 #[.int .i64 6] w fun e w' => e = .returned (.string ⟨#[116, 105, 109, 101, 100, 111, 117, 116]⟩) ∧ w = w' := fun w hw => name_in 6 w (HT.out.below hw) (by omega) (by omega)
    have K19 := hid k19
    clear k19 HT
    go_enter Tryd.func4, Tryd.ntmps4
    go_wp2_with (first | (go_at_call 9; refine (K9.out _ (by go_grown)).mono ?_; rintro e w1 ⟨rfl, hb1⟩; have hg1 := hid (below_step (B := W.heap.size) (w := W) (by go_grown) (by go_size) hb1); have L1 := newA hb1; have L2 := five L1; have zL := lt_of L1; have zL1 : W.heap.size < w1.heap.size + 1 := (by omega); have zL2 : W.heap.size < w1.heap.size + 1 + 1 := (by omega); clear hb1 L1; obtain ⟨cL0, cL1, cL2, cL3, cL4⟩ := L2) | (go_at_call 12; go_in))
    go_region_held3 (fun w' => w'.cell? ⟨W.heap.size, 0, none⟩ = some (.int .i64 6) ∧ w'.cell? ⟨W.heap.size, 1, none⟩ = some (.int .i64 a) ∧ w'.cell? ⟨W.heap.size, 2, none⟩ = some (.int .i64 l) ∧ w'.cell? ⟨W.heap.size, 3, none⟩ = some (.bool b) ∧ w'.cell? ⟨W.heap.size, 4, none⟩ = some (.bool t)) (first | exact ⟨cL0, cL1, cL2, cL3, cL4⟩ | (refine ⟨?_, ?_, ?_, ?_, ?_⟩ <;> simp [World.cell?_alloc_past, go_sem, zL, zL1, zL2, cL0, cL1, cL2, cL3, cL4]) | go_keep)
      (first | (go_at_call 13; refine (K13.out _ ?_).mono ?_; (have hg := hg1.out; have := hg.size; go_grown); rintro e w2 ⟨rfl, rfl⟩) | (go_at_call 14; refine (K14.out _).mono ?_; rintro e w2 ⟨rfl, rfl⟩) | (go_at_call 15; refine (K15.out _).mono ?_; rintro e w2 ⟨rfl, rfl⟩) | (go_at_call 16; refine (K16.out _).mono ?_; rintro e w2 ⟨rfl, rfl⟩) | (go_at_call 17; refine (K17.out _).mono ?_; rintro e w2 ⟨rfl, rfl⟩) | (go_at_call 18; refine (K18.out _).mono ?_; rintro e w2 ⟨rfl, rfl⟩) | (go_at_call 19; refine (K19.out _ ?_).mono ?_; (have hg := hg1.out; have := hg.size; go_grown); rintro e w2 ⟨rfl, rfl⟩))
    all_goals go_wp2
    all_goals go_returns
    all_goals exact ⟨by simp, by have hg := hg1.out; have := hg.size; go_grown⟩
  · have k19 : ∀ w, Below W.heap.size W w → Calls Tryd.prog 19 #[.int .i64 7] w fun e w' => e = .returned (.string ⟨#[102, 97, 105, 108, 101, 100]⟩) ∧ w = w' := fun w hw => name_in 7 w (HT.out.below hw) (by omega) (by omega)
    have K19 := hid k19
    clear k19 HT
    go_enter Tryd.func4, Tryd.ntmps4
    go_wp2_with (first | (go_at_call 9; refine (K9.out _ (by go_grown)).mono ?_; rintro e w1 ⟨rfl, hb1⟩; have hg1 := hid (below_step (B := W.heap.size) (w := W) (by go_grown) (by go_size) hb1); have L1 := newA hb1; have L2 := five L1; have zL := lt_of L1; have zL1 : W.heap.size < w1.heap.size + 1 := (by omega); have zL2 : W.heap.size < w1.heap.size + 1 + 1 := (by omega); clear hb1 L1; obtain ⟨cL0, cL1, cL2, cL3, cL4⟩ := L2) | (go_at_call 12; go_in))
    go_region_held3 (fun w' => w'.cell? ⟨W.heap.size, 0, none⟩ = some (.int .i64 7) ∧ w'.cell? ⟨W.heap.size, 1, none⟩ = some (.int .i64 a) ∧ w'.cell? ⟨W.heap.size, 2, none⟩ = some (.int .i64 l) ∧ w'.cell? ⟨W.heap.size, 3, none⟩ = some (.bool b) ∧ w'.cell? ⟨W.heap.size, 4, none⟩ = some (.bool t)) (first | exact ⟨cL0, cL1, cL2, cL3, cL4⟩ | (refine ⟨?_, ?_, ?_, ?_, ?_⟩ <;> simp [World.cell?_alloc_past, go_sem, zL, zL1, zL2, cL0, cL1, cL2, cL3, cL4]) | go_keep)
      (first | (go_at_call 13; refine (K13.out _ ?_).mono ?_; (have hg := hg1.out; have := hg.size; go_grown); rintro e w2 ⟨rfl, rfl⟩) | (go_at_call 14; refine (K14.out _).mono ?_; rintro e w2 ⟨rfl, rfl⟩) | (go_at_call 15; refine (K15.out _).mono ?_; rintro e w2 ⟨rfl, rfl⟩) | (go_at_call 16; refine (K16.out _).mono ?_; rintro e w2 ⟨rfl, rfl⟩) | (go_at_call 17; refine (K17.out _).mono ?_; rintro e w2 ⟨rfl, rfl⟩) | (go_at_call 18; refine (K18.out _).mono ?_; rintro e w2 ⟨rfl, rfl⟩) | (go_at_call 19; refine (K19.out _ ?_).mono ?_; (have hg := hg1.out; have := hg.size; go_grown); rintro e w2 ⟨rfl, rfl⟩))
    all_goals go_wp2
    all_goals go_returns
    all_goals exact ⟨by simp, by have hg := hg1.out; have := hg.size; go_grown⟩
  · have k19 : ∀ w, Below W.heap.size W w → Calls Tryd.prog 19 #[.int .i64 8] w fun e w' => e = .returned (.string ⟨#[99, 97, 110, 99, 101, 108, 108, 101, 100]⟩) ∧ w = w' := fun w hw => name_in 8 w (HT.out.below hw) (by omega) (by omega)
    have K19 := hid k19
    clear k19 HT
    go_enter Tryd.func4, Tryd.ntmps4
    go_wp2_with (first | (go_at_call 9; refine (K9.out _ (by go_grown)).mono ?_; rintro e w1 ⟨rfl, hb1⟩; have hg1 := hid (below_step (B := W.heap.size) (w := W) (by go_grown) (by go_size) hb1); have L1 := newA hb1; have L2 := five L1; have zL := lt_of L1; have zL1 : W.heap.size < w1.heap.size + 1 := (by omega); have zL2 : W.heap.size < w1.heap.size + 1 + 1 := (by omega); clear hb1 L1; obtain ⟨cL0, cL1, cL2, cL3, cL4⟩ := L2) | (go_at_call 12; go_in))
    go_region_held3 (fun w' => w'.cell? ⟨W.heap.size, 0, none⟩ = some (.int .i64 8) ∧ w'.cell? ⟨W.heap.size, 1, none⟩ = some (.int .i64 a) ∧ w'.cell? ⟨W.heap.size, 2, none⟩ = some (.int .i64 l) ∧ w'.cell? ⟨W.heap.size, 3, none⟩ = some (.bool b) ∧ w'.cell? ⟨W.heap.size, 4, none⟩ = some (.bool t)) (first | exact ⟨cL0, cL1, cL2, cL3, cL4⟩ | (refine ⟨?_, ?_, ?_, ?_, ?_⟩ <;> simp [World.cell?_alloc_past, go_sem, zL, zL1, zL2, cL0, cL1, cL2, cL3, cL4]) | go_keep)
      (first | (go_at_call 13; refine (K13.out _ ?_).mono ?_; (have hg := hg1.out; have := hg.size; go_grown); rintro e w2 ⟨rfl, rfl⟩) | (go_at_call 14; refine (K14.out _).mono ?_; rintro e w2 ⟨rfl, rfl⟩) | (go_at_call 15; refine (K15.out _).mono ?_; rintro e w2 ⟨rfl, rfl⟩) | (go_at_call 16; refine (K16.out _).mono ?_; rintro e w2 ⟨rfl, rfl⟩) | (go_at_call 17; refine (K17.out _).mono ?_; rintro e w2 ⟨rfl, rfl⟩) | (go_at_call 18; refine (K18.out _).mono ?_; rintro e w2 ⟨rfl, rfl⟩) | (go_at_call 19; refine (K19.out _ ?_).mono ?_; (have hg := hg1.out; have := hg.size; go_grown); rintro e w2 ⟨rfl, rfl⟩))
    all_goals go_wp2
    all_goals go_returns
    all_goals exact ⟨by simp, by have hg := hg1.out; have := hg.size; go_grown⟩
  · have k19 : ∀ w, Below W.heap.size W w → Calls Tryd.prog 19 #[.int .i64 s] w fun e w' => e = .returned (.string ⟨#[]⟩) ∧ w = w' := fun w hw => by
      by_cases h0 : s = 0
      · subst h0
        exact name_in 0 w (HT.out.below hw) (by omega) (by omega)
      · exact name_out s w (by omega)
    have K19 := hid k19
    clear k19 HT
    go_enter Tryd.func4, Tryd.ntmps4
    go_wp2_with (first | (go_at_call 9; refine (K9.out _ (by go_grown)).mono ?_; rintro e w1 ⟨rfl, hb1⟩; have hg1 := hid (below_step (B := W.heap.size) (w := W) (by go_grown) (by go_size) hb1); have L1 := newA hb1; have L2 := five L1; have zL := lt_of L1; have zL1 : W.heap.size < w1.heap.size + 1 := (by omega); have zL2 : W.heap.size < w1.heap.size + 1 + 1 := (by omega); clear hb1 L1; obtain ⟨cL0, cL1, cL2, cL3, cL4⟩ := L2) | (go_at_call 12; go_in))
    go_region_held3 (fun w' => w'.cell? ⟨W.heap.size, 0, none⟩ = some (.int .i64 s) ∧ w'.cell? ⟨W.heap.size, 1, none⟩ = some (.int .i64 a) ∧ w'.cell? ⟨W.heap.size, 2, none⟩ = some (.int .i64 l) ∧ w'.cell? ⟨W.heap.size, 3, none⟩ = some (.bool b) ∧ w'.cell? ⟨W.heap.size, 4, none⟩ = some (.bool t)) (first | exact ⟨cL0, cL1, cL2, cL3, cL4⟩ | (refine ⟨?_, ?_, ?_, ?_, ?_⟩ <;> simp [World.cell?_alloc_past, go_sem, zL, zL1, zL2, cL0, cL1, cL2, cL3, cL4]) | go_keep)
      (first | (go_at_call 13; refine (K13.out _ ?_).mono ?_; (have hg := hg1.out; have := hg.size; go_grown); rintro e w2 ⟨rfl, rfl⟩) | (go_at_call 14; refine (K14.out _).mono ?_; rintro e w2 ⟨rfl, rfl⟩) | (go_at_call 15; refine (K15.out _).mono ?_; rintro e w2 ⟨rfl, rfl⟩) | (go_at_call 16; refine (K16.out _).mono ?_; rintro e w2 ⟨rfl, rfl⟩) | (go_at_call 17; refine (K17.out _).mono ?_; rintro e w2 ⟨rfl, rfl⟩) | (go_at_call 18; refine (K18.out _).mono ?_; rintro e w2 ⟨rfl, rfl⟩) | (go_at_call 19; refine (K19.out _ ?_).mono ?_; (have hg := hg1.out; have := hg.size; go_grown); rintro e w2 ⟨rfl, rfl⟩))
    all_goals go_wp2
    all_goals go_returns
    all_goals exact ⟨by simp, by have hg := hg1.out; have := hg.size; go_grown⟩
  · have k19 : ∀ w, Below W.heap.size W w → Calls Tryd.prog 19 #[.int .i64 s] w fun e w' => e = .returned (.string ⟨#[]⟩) ∧ w = w' := fun w hw => name_out s w (.inr hs)
    have K19 := hid k19
    have hs1 : 1 ≤ s := by omega
    clear k19 HT
    go_enter Tryd.func4, Tryd.ntmps4
    go_wp2_with (first | (go_at_call 9; refine (K9.out _ (by go_grown)).mono ?_; rintro e w1 ⟨rfl, hb1⟩; have hg1 := hid (below_step (B := W.heap.size) (w := W) (by go_grown) (by go_size) hb1); have L1 := newA hb1; have L2 := five L1; have zL := lt_of L1; have zL1 : W.heap.size < w1.heap.size + 1 := (by omega); have zL2 : W.heap.size < w1.heap.size + 1 + 1 := (by omega); clear hb1 L1; obtain ⟨cL0, cL1, cL2, cL3, cL4⟩ := L2) | (go_at_call 12; go_in))
    go_region_held3 (fun w' => w'.cell? ⟨W.heap.size, 0, none⟩ = some (.int .i64 s) ∧ w'.cell? ⟨W.heap.size, 1, none⟩ = some (.int .i64 a) ∧ w'.cell? ⟨W.heap.size, 2, none⟩ = some (.int .i64 l) ∧ w'.cell? ⟨W.heap.size, 3, none⟩ = some (.bool b) ∧ w'.cell? ⟨W.heap.size, 4, none⟩ = some (.bool t)) (first | exact ⟨cL0, cL1, cL2, cL3, cL4⟩ | (refine ⟨?_, ?_, ?_, ?_, ?_⟩ <;> simp [World.cell?_alloc_past, go_sem, zL, zL1, zL2, cL0, cL1, cL2, cL3, cL4]) | go_keep)
      (first | (go_at_call 13; refine (K13.out _ ?_).mono ?_; (have hg := hg1.out; have := hg.size; go_grown); rintro e w2 ⟨rfl, rfl⟩) | (go_at_call 14; refine (K14.out _).mono ?_; rintro e w2 ⟨rfl, rfl⟩) | (go_at_call 15; refine (K15.out _).mono ?_; rintro e w2 ⟨rfl, rfl⟩) | (go_at_call 16; refine (K16.out _).mono ?_; rintro e w2 ⟨rfl, rfl⟩) | (go_at_call 17; refine (K17.out _).mono ?_; rintro e w2 ⟨rfl, rfl⟩) | (go_at_call 18; refine (K18.out _).mono ?_; rintro e w2 ⟨rfl, rfl⟩) | (go_at_call 19; refine (K19.out _ ?_).mono ?_; (have hg := hg1.out; have := hg.size; go_grown); rintro e w2 ⟨rfl, rfl⟩))
    all_goals go_wp2
    all_goals go_returns
    all_goals exact ⟨by simp, by have hg := hg1.out; have := hg.size; go_grown⟩
end Go.Proofs.YtlfbooillhleoaaDoor
