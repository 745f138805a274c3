/- The Go function LifeNews, called with any arguments, returns true and leaves all that was there. Condition: the two package-level tables of life stand as the row lists them. -/
import Derived.Test.YtlfbooillhleoaaDoorAwake
import Derived.Test.YtlfbooillhleoaaDoorRows
import Derived.Test.YtlfbooillhleoaaDoorTab
import Derived.Test.YtlfbooillhleoaaDoorOpen
import Derived.ProofKit
namespace Go.Proofs.YtlfbooillhleoaaDoor
open Go Go.ChangeShapes Go.WideShapes Go.RowKit
set_option maxHeartbeats 1000000 in
theorem lifeNews_walk {H : Type} {enc : TypeId × Value → H} (W : World) (base : Nat) (args : Array Value) (ds : List (DataW H))
    (hval : ∀ (j : Nat) t v, Tryd.f5.params[j]? = some t → args[j]? = some v → Value.okWide Tryd.prog W .any base t v)
    (hA : ∃ p, DataW.TrodAll enc Tryd.prog W 0 (fun _ => true) true Tryd.f5.params.toList args.toList ds p)
    (_ : (DataW.weightsEach Tryd.prog (Tryd.f5.params.toList ++ (OpenSpec.ofChange Rows.lifeNewsSpec).bare.plain.varTypes Tryd.prog) (ds ++ [])).all (· ≤ reachBytes) = true)
    (hL : laidMetH Tryd.prog Rows.lifeNewsRow.laid W) (_ : W.ShapedOpen Tryd.prog) :
    Calls Tryd.prog 5 args W fun e W' => e = .returned (.bool true) ∧ Below W.heap.size W W' := by
  have hT : Tab W := tab_of hL
  obtain ⟨p, hA⟩ := hA
  rw [Tryd.params5] at hA hval
  obtain ⟨v0, v1, d0, d1, p0, p1, hargs, rfl, rfl, h0, h1⟩ := trodAll_two hA
  subst hargs
  obtain ⟨r, rfl, _, _, wr⟩ := open_int Tryd.underlying3 (hval 0 3 v0 rfl rfl) h0
  obtain ⟨h, rfl, _, _⟩ := open_bool Tryd.underlying4 (hval 1 4 v1 rfl rfl) h1
  clear hval h1 hL hA h0
  have k9 : ∀ w, Below W.heap.size W w → Calls Tryd.prog 9 #[] w fun e w' => e = .returned (.bool true) ∧ Below w.heap.size w w' := fun w hw => awake_any w (hT.below hw)
  have K9 := hid k9
  have k13 : ∀ w s l, Below W.heap.size W w → (s = 1 ∨ s = 2) → 0 ≤ l → l ≤ 5 → Calls Tryd.prog 13 #[.agg #[.int .i64 s, .int .i64 0, .int .i64 l, .bool false, .bool false]] w fun e w' => e = .returned (.bool true) ∧ w.alloc (.cells #[.int .i64 s, .int .i64 0, .int .i64 l, .bool false, .bool false] 24) = w' := fun w s l hw hs h0 h5 => by
    have hr : rightB s 0 l false false = true := by
      simp only [rightB, decide_eq_true_iff]
      rw [if_pos hs]
      exact ⟨by omega, by omega, by omega, h0, by omega, fun _ => by omega, .inr (by simp)⟩
    rw [← hr]
    exact right_any s 0 l false false w (hT.below hw)
  have K13 := hid k13
  clear k9 k13 hT
  by_cases hb : r < 0 ∨ 5 < r
  · have N := hid hb
    clear hb
    go_enter Tryd.func5, Tryd.ntmps5
    go_wp2_with (first | (go_at_call 9; refine (K9.out _ (by go_grown)).mono ?_; rintro e w1 ⟨rfl, hb1⟩; have hg1 := below_step (B := W.heap.size) (w := W) (by go_grown) (by go_size) hb1; clear hb1) | (go_at_call 20; refine (new_bad _ _ _ N.out).mono ?_; rintro e w2 ⟨rfl, rfl⟩) | (go_at_call 21; refine (rnew_bad _ _ _ N.out).mono ?_; rintro e w2 ⟨rfl, rfl⟩))
    all_goals go_returns
    all_goals exact ⟨rfl, by have := hg1.size; go_grown⟩
  · have h0 : 0 ≤ r := by omega
    have h5 : r ≤ 5 := by omega
    clear hb
    cases h
    all_goals
      go_enter Tryd.func5, Tryd.ntmps5
      go_wp2_with (first | (go_at_call 9; refine (K9.out _ (by go_grown)).mono ?_; rintro e w1 ⟨rfl, hb1⟩; have hg1 := below_step (B := W.heap.size) (w := W) (by go_grown) (by go_size) hb1; clear hb1) | (go_at_call 20; refine (new_ok _ _ _ h0 h5).mono ?_; rintro e w2 ⟨rfl, rfl⟩) | (go_at_call 21; refine (rnew_ok _ _ _ h0 h5).mono ?_; rintro e w2 ⟨rfl, rfl⟩) | (go_at_call 13; refine (K13.out _ _ _ (by have := hg1.size; go_grown) (by simp) h0 h5).mono ?_; rintro e w2 ⟨rfl, rfl⟩))
      all_goals go_returns
      all_goals exact ⟨rfl, by have := hg1.size; go_grown⟩
end Go.Proofs.YtlfbooillhleoaaDoor
