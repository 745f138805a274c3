/- The Go function LifeHolds, called with any two numbers, returns true and leaves all that was there. Condition: the two package-level tables of life stand as the row lists them. -/
import Derived.Test.YtlfbooillhleoaaDoorKeep
import Derived.Test.YtlfbooillhleoaaDoorBits
import Derived.Test.YtlfbooillhleoaaDoorRows
import Derived.Test.YtlfbooillhleoaaDoorTab
import Derived.Test.YtlfbooillhleoaaDoorOpen
import Derived.ProofKit
namespace Go.Proofs.YtlfbooillhleoaaDoor
open Go Go.ChangeShapes Go.WideShapes Go.RowKit
set_option maxHeartbeats 1000000 in
theorem lifeHolds_walk {H : Type} {enc : TypeId × Value → H} (W : World) (base : Nat) (args : Array Value) (ds : List (DataW H))
    (hval : ∀ (j : Nat) t v, Tryd.f8.params[j]? = some t → args[j]? = some v → Value.okWide Tryd.prog W .any base t v)
    (hA : ∃ p, DataW.TrodAll enc Tryd.prog W 0 (fun _ => true) true Tryd.f8.params.toList args.toList ds p)
    (_ : (DataW.weightsEach Tryd.prog (Tryd.f8.params.toList ++ (OpenSpec.ofChange Rows.lifeHoldsSpec).bare.plain.varTypes Tryd.prog) (ds ++ [])).all (· ≤ reachBytes) = true)
    (hL : laidMetH Tryd.prog Rows.lifeHoldsRow.laid W) (_ : W.ShapedOpen Tryd.prog) :
    Calls Tryd.prog 8 args W fun e W' => e = .returned (.bool true) ∧ Below W.heap.size W W' := by
  have hT : Tab W := tab_of hL
  obtain ⟨p, hA⟩ := hA
  rw [Tryd.params8] at hA hval
  obtain ⟨v0, v1, d0, d1, p0, p1, hargs, rfl, rfl, h0, h1⟩ := trodAll_two hA
  subst hargs
  obtain ⟨r, rfl, _, _, wr⟩ := open_int Tryd.underlying3 (hval 0 3 v0 rfl rfl) h0
  obtain ⟨m, rfl, _, _, wm⟩ := open_int Tryd.underlying3 (hval 1 3 v1 rfl rfl) h1
  clear hval h1 hL hA h0
  have k9 : ∀ w, Below W.heap.size W w → Calls Tryd.prog 9 #[] w fun e w' => e = .returned (.bool true) ∧ Below w.heap.size w w' := fun w hw => awake_any w (hT.below hw)
  have K9 := hid k9
  by_cases hb : r < 0 ∨ 5 < r
  · have N := hid hb
    clear hb k9 hT
    go_enter Tryd.func8, Tryd.ntmps8
    go_wp2_with (first | (go_at_call 9; refine (K9.out _ (by go_grown)).mono ?_; rintro e w1 ⟨rfl, hb1⟩; have hg1 := below_step (B := W.heap.size) (w := W) (by go_grown) (by go_size) hb1; clear hb1) | (go_at_call 20; refine (new_bad _ _ _ N.out).mono ?_; rintro e w2 ⟨rfl, rfl⟩))
    all_goals go_returns
    all_goals exact ⟨rfl, by have := hg1.size; go_grown⟩
  · have h0 : 0 ≤ r := by omega
    have h5 : r ≤ 5 := by omega
    clear hb
    have hR : ∀ s, (s = 1 ∨ s = 2) → rightB s 0 r false false = true := fun s hs => by
      simp only [rightB, decide_eq_true_iff]
      rw [if_pos hs]
      exact ⟨by omega, by omega, by omega, h0, by omega, fun _ => by omega, .inr (by simp)⟩
    have kn : ∀ w s sg s' e', Below W.heap.size W w → nextF s 0 r false false sg = ⟨s', 0, if e' = 0 then r else 0, false, false, e'⟩ → Calls Tryd.prog 10 #[.agg #[.int .i64 s, .int .i64 0, .int .i64 r, .bool false, .bool false], .int .i64 sg] w fun e w' => e = .returned (.tuple #[.agg #[.int .i64 s', .int .i64 0, .int .i64 (if e' = 0 then r else 0), .bool false, .bool false], .int .i64 e']) ∧ Below w.heap.size w w' := fun w s sg s' e' hw hn => by
      have := next_any s 0 r false false sg w (hT.below hw)
      rw [hn] at this
      exact this
    have kRel : ∀ w, Below W.heap.size W w → Calls Tryd.prog 10 #[.agg #[.int .i64 2, .int .i64 0, .int .i64 r, .bool false, .bool false], .int .i64 2] w fun e w' => e = .returned (.tuple #[.agg #[.int .i64 1, .int .i64 0, .int .i64 r, .bool false, .bool false], .int .i64 0]) ∧ Below w.heap.size w w' := fun w hw => kn w 2 2 1 0 hw (by simp [nextF, hR, nx])
    have kHold : ∀ w, Below W.heap.size W w → Calls Tryd.prog 10 #[.agg #[.int .i64 1, .int .i64 0, .int .i64 r, .bool false, .bool false], .int .i64 1] w fun e w' => e = .returned (.tuple #[.agg #[.int .i64 2, .int .i64 0, .int .i64 r, .bool false, .bool false], .int .i64 0]) ∧ Below w.heap.size w w' := fun w hw => kn w 1 1 2 0 hw (by simp [nextF, hR, nx])
    have kSt : ∀ w, Below W.heap.size W w → Calls Tryd.prog 10 #[.agg #[.int .i64 2, .int .i64 0, .int .i64 r, .bool false, .bool false], .int .i64 3] w fun e w' => e = .returned (.tuple #[.agg #[.int .i64 0, .int .i64 0, .int .i64 0, .bool false, .bool false], .int .i64 100]) ∧ Below w.heap.size w w' := fun w hw => kn w 2 3 0 100 hw (by simp [nextF, hR, nx])
    have kRR : ∀ w, Below W.heap.size W w → Calls Tryd.prog 10 #[.agg #[.int .i64 1, .int .i64 0, .int .i64 r, .bool false, .bool false], .int .i64 2] w fun e w' => e = .returned (.tuple #[.agg #[.int .i64 0, .int .i64 0, .int .i64 0, .bool false, .bool false], .int .i64 100]) ∧ Below w.heap.size w w' := fun w hw => kn w 1 2 0 100 hw (by simp [nextF, hR, nx])
    have kDoom : ∀ w, Below W.heap.size W w → Calls Tryd.prog 10 #[.agg #[.int .i64 2, .int .i64 0, .int .i64 r, .bool false, .bool false], .int .i64 7] w fun e w' => e = .returned (.tuple #[.agg #[.int .i64 8, .int .i64 0, .int .i64 r, .bool false, .bool false], .int .i64 0]) ∧ Below w.heap.size w w' := fun w hw => kn w 2 7 8 0 hw (by simp [nextF, hR, nx])
    have hq0 := (and15 m).1
    have hq1 := (and15 m).2
    have KRel := hid kRel
    have KHold := hid kHold
    have KSt := hid kSt
    have KRR := hid kRR
    have KDoom := hid kDoom
    clear kn kRel kHold kSt kRR kDoom hR k9 hT
    go_enter Tryd.func8, Tryd.ntmps8
    go_wp2_with (first | (go_at_call 9; refine (K9.out _ (by go_grown)).mono ?_; rintro e w1 ⟨rfl, hb1⟩; have hg1 := below_step (B := W.heap.size) (w := W) (by go_grown) (by go_size) hb1; clear hb1) | (go_at_call 20; refine (new_ok _ _ _ h0 h5).mono ?_; rintro e w2 ⟨rfl, rfl⟩))
    go_loopw [9] (fun i wr => ∃ k : Nat, i = .int .i64 k ∧ k ≤ 15 ∧ Below W.heap.size W wr ∧ wr.heap[w1.heap.size + 1 + 1]? = some (.cells #[.int .i64 2, .int .i64 0, .int .i64 r, .bool false, .bool false] 24 (0, 0)) ∧ wr.heap[w1.heap.size + 1 + 1 + 1]? = some (.cells #[.int .i64 2, .int .i64 0, .int .i64 r, .bool false, .bool false] 24 (0, 0))) (fun i _ => 16 - (intOf i).toNat)
    case atStart => exact ⟨0, rfl, by omega, by have := hg1.size; go_grown, by
        rw [Below.heap_alloc _ _ _ (by simp)]
        have := heap_new ((w1.alloc (.cells #[.int .i64 2, .int .i64 0, .int .i64 r, .bool false, .bool false] 24)).alloc (.cells #[.int .i64 2, .int .i64 0, .int .i64 r, .bool false, .bool false] 24)) (.cells #[.int .i64 2, .int .i64 0, .int .i64 r, .bool false, .bool false] 24)
        simpa using this, by
        have := heap_new (((w1.alloc (.cells #[.int .i64 2, .int .i64 0, .int .i64 r, .bool false, .bool false] 24)).alloc (.cells #[.int .i64 2, .int .i64 0, .int .i64 r, .bool false, .bool false] 24)).alloc (.cells #[.int .i64 2, .int .i64 0, .int .i64 r, .bool false, .bool false] 24)) (.cells #[.int .i64 2, .int .i64 0, .int .i64 r, .bool false, .bool false] 24)
        simpa using this⟩
    case round =>
      obtain ⟨k, rfl, hk, hg3, A3, D3⟩ := hrel
      obtain ⟨cA30, cA31, cA32, cA33, cA34⟩ := five A3
      obtain ⟨cD30, cD31, cD32, cD33, cD34⟩ := five D3
      have HA3 := hid A3
      have HD3 := hid D3
      clear A3 D3
      by_cases hlt : (k : Int) < bits BinOp.and IntKind.i64 m 15
      · have hk' : k + 1 ≤ 15 := by omega
        go_wp2_with fail
        refine (KRel.out _ (by have := hg3.size; go_grown)).mono ?_
        rintro e w4 ⟨rfl, hb⟩
        have hg4 := below_step (B := W.heap.size) (w := W) (by have := hg3.size; go_grown) (by have := hg3.size; go_size) hb
        have A4 := keep0 hb HA3.out
        obtain ⟨cA40, cA41, cA42, cA43, cA44⟩ := five A4
        have zA4 := lt_of A4
        have HA4 := hid A4
        clear A4
        have D4 := keep0 hb HD3.out
        obtain ⟨cD40, cD41, cD42, cD43, cD44⟩ := five D4
        have zD4 := lt_of D4
        have HD4 := hid D4
        clear D4
        clear hb
        go_wp2_with fail
        refine (KHold.out _ (by have := hg4.size; go_grown)).mono ?_
        rintro e w5 ⟨rfl, hb⟩
        have hg5 := below_step (B := W.heap.size) (w := W) (by have := hg4.size; go_grown) (by have := hg4.size; go_size) hb
        have A5 := keepA hb HA4.out
        obtain ⟨cA50, cA51, cA52, cA53, cA54⟩ := five A5
        have zA5 := lt_of A5
        have HA5 := hid A5
        clear A5
        have D5 := keepA hb HD4.out
        obtain ⟨cD50, cD51, cD52, cD53, cD54⟩ := five D5
        have zD5 := lt_of D5
        have HD5 := hid D5
        clear D5
        have X5 := newA hb
        obtain ⟨cX50, cX51, cX52, cX53, cX54⟩ := five X5
        have zX5 := lt_of X5
        have HX5 := hid X5
        clear X5
        clear hb
        go_wp2_with fail
        refine (KSt.out _ (by have := hg5.size; go_grown)).mono ?_
        rintro e w6 ⟨rfl, hb⟩
        have hg6 := below_step (B := W.heap.size) (w := W) (by have := hg5.size; go_grown) (by have := hg5.size; go_size) hb
        have A6 := keepA hb HA5.out
        obtain ⟨cA60, cA61, cA62, cA63, cA64⟩ := five A6
        have zA6 := lt_of A6
        have HA6 := hid A6
        clear A6
        have D6 := keepA hb HD5.out
        obtain ⟨cD60, cD61, cD62, cD63, cD64⟩ := five D6
        have zD6 := lt_of D6
        have HD6 := hid D6
        clear D6
        have X6 := keepA hb HX5.out
        obtain ⟨cX60, cX61, cX62, cX63, cX64⟩ := five X6
        have zX6 := lt_of X6
        have HX6 := hid X6
        clear X6
        have Y6 := newA hb
        obtain ⟨cY60, cY61, cY62, cY63, cY64⟩ := five Y6
        have zY6 := lt_of Y6
        have HY6 := hid Y6
        clear Y6
        clear hb
        go_wp2_with fail
        refine (KRR.out _ (by have := hg6.size; go_grown)).mono ?_
        rintro e w7 ⟨rfl, hb⟩
        have hg7 := below_step (B := W.heap.size) (w := W) (by have := hg6.size; go_grown) (by have := hg6.size; go_size) hb
        have A7 := keepA hb HA6.out
        obtain ⟨cA70, cA71, cA72, cA73, cA74⟩ := five A7
        have zA7 := lt_of A7
        have HA7 := hid A7
        clear A7
        have D7 := keepA hb HD6.out
        obtain ⟨cD70, cD71, cD72, cD73, cD74⟩ := five D7
        have zD7 := lt_of D7
        have HD7 := hid D7
        clear D7
        have Y7 := keepA hb HY6.out
        obtain ⟨cY70, cY71, cY72, cY73, cY74⟩ := five Y7
        have zY7 := lt_of Y7
        have HY7 := hid Y7
        clear Y7
        clear hb
        obtain ⟨fA0, fA1, fA2, fA3, fA4⟩ := fiveF HA7.out
        go_wp2_with fail
        go_roundw
        case rel =>
          have hB := lt_of HA7.out
          have hD := lt_of HD7.out
          refine ⟨k + 1, by go_num, hk', (five_below _ _ _ _ _ hg7 (by have := hg1.size; omega)).alloc (by simp only [World.size_setCell]; exact hg7.size) _, ?_, ?_⟩
          · rw [Below.heap_alloc _ _ _ (by simp only [World.size_setCell]; omega)]
            exact five_set _ _ _ _ _ HA7.out
          · rw [Below.heap_alloc _ _ _ (by simp only [World.size_setCell]; omega)]
            exact (five_other _ _ _ _ _ (by omega)).trans HD7.out
        case measure => simp [intOf]; omega
      · go_wp2_with fail
        refine (KDoom.out _ (by have := hg3.size; go_grown)).mono ?_
        rintro e w4 ⟨rfl, hb⟩
        have hg4 := below_step (B := W.heap.size) (w := W) (by have := hg3.size; go_grown) (by have := hg3.size; go_size) hb
        clear hb
        go_wp2_with fail
        all_goals go_returns
        all_goals exact ⟨rfl, by have := hg4.size; go_grown⟩
end Go.Proofs.YtlfbooillhleoaaDoor
