/- The Go function LifeStays, called with any retries, flag and row of signs, returns true and leaves all that was there. Condition: the two package-level tables of life stand as the row lists them. -/
import Derived.Test.YtlfbooillhleoaaDoorStay
import Derived.Test.YtlfbooillhleoaaDoorSlice
import Derived.Deep.RegionWith
import Derived.Deep.DeepCutAuto
import Derived.Test.YtlfbooillhleoaaDoorRows
import Derived.Test.YtlfbooillhleoaaDoorTab
import Derived.Test.YtlfbooillhleoaaDoorOpen
import Derived.ProofKit
namespace Go.Proofs.YtlfbooillhleoaaDoor
open Go Go.ChangeShapes Go.WideShapes Go.RowKit
set_option maxRecDepth 100000 in
set_option maxHeartbeats 2000000 in
theorem lifeStays_walk {H : Type} {enc : TypeId × Value → H} (W : World) (base : Nat) (args : Array Value) (ds : List (DataW H))
    (hval : ∀ (j : Nat) t v, Tryd.f6.params[j]? = some t → args[j]? = some v → Value.okWide Tryd.prog W .any base t v)
    (hA : ∃ p, DataW.TrodAll enc Tryd.prog W 0 (fun _ => true) true Tryd.f6.params.toList args.toList ds p)
    (_ : (DataW.weightsEach Tryd.prog (Tryd.f6.params.toList ++ (OpenSpec.ofChange Rows.lifeStaysSpec).bare.plain.varTypes Tryd.prog) (ds ++ [])).all (· ≤ reachBytes) = true)
    (hL : laidMetH Tryd.prog Rows.lifeStaysRow.laid W) (_ : W.ShapedOpen Tryd.prog) :
    Calls Tryd.prog 6 args W fun e W' => e = .returned (.bool true) ∧ Below W.heap.size W W' := by
  have hT : Tab W := tab_of hL
  obtain ⟨p, hA⟩ := hA
  rw [Tryd.params6] at hA hval
  obtain ⟨v0, v1, v2, d0, d1, d2, p0, p1, p2, hargs, rfl, rfl, h0, h1, h2⟩ := trodAll_three hA
  subst hargs
  obtain ⟨r, rfl, _, _, wr⟩ := open_int Tryd.underlying3 (hval 0 3 v0 rfl rfl) h0
  obtain ⟨h, rfl, _, _⟩ := open_bool Tryd.underlying4 (hval 1 4 v1 rfl rfl) h1
  obtain ⟨A, len, cap, zs, rfl, hz⟩ := open_signs (hval 2 38 v2 rfl rfl) h2
  clear hval h1 h2 hL hA h0
  have k9 : ∀ w, Below W.heap.size W w → Calls Tryd.prog 9 #[] w fun e w' => e = .returned (.bool true) ∧ Below w.heap.size w w' := fun w hw => awake_any w (hT.below hw)
  have K9 := hid k9
  by_cases hb : r < 0 ∨ 5 < r
  · have N := hid hb
    have N' : (decide (r < 0) || decide (5 < r)) = true := by simpa using hb
    clear k9 hT hz
    rcases hb with hb | hb
    · go_enter Tryd.func6, Tryd.ntmps6
      go_wp2_with (first | (go_at_call 9; refine (K9.out _ (by go_grown)).mono ?_; rintro e w1 ⟨rfl, hb1⟩; have hg1 := below_step (B := W.heap.size) (w := W) (by go_grown) (by go_size) hb1; clear hb1) | (go_at_call 20; refine (new_bad _ _ _ N.out).mono ?_; rintro e w2 ⟨rfl, rfl⟩))
      all_goals go_returns
      all_goals exact ⟨rfl, by have := hg1.size; go_grown⟩
    · have hb' : ¬ r < 0 := by omega
      go_enter Tryd.func6, Tryd.ntmps6
      go_wp2_with (first | (go_at_call 9; refine (K9.out _ (by go_grown)).mono ?_; rintro e w1 ⟨rfl, hb1⟩; have hg1 := below_step (B := W.heap.size) (w := W) (by go_grown) (by go_size) hb1; clear hb1) | (go_at_call 20; refine (new_bad _ _ _ N.out).mono ?_; rintro e w2 ⟨rfl, rfl⟩))
      all_goals go_returns
      all_goals exact ⟨rfl, by have := hg1.size; go_grown⟩
  · have h0 : 0 ≤ r := by omega
    have h5 : r ≤ 5 := by omega
    clear hb k9
    have I0 : ∀ s, (s = 1 ∨ s = 2) → StayI r s 0 r false false := fun s hs => by
      refine ⟨?_, by omega, fun _ => by omega⟩
      simp only [rightB, decide_eq_true_iff]
      rw [if_pos hs]
      exact ⟨by omega, by omega, by omega, h0, by omega, fun _ => by omega, .inr (by simp)⟩
    have HI0 := hid I0
    have HT := hid hT
    have HZ := hid hz
    have hlen : len ≤ 9223372036854775807 := ints_len hz
    clear I0 hT hz
    cases h
    all_goals
      go_enter Tryd.func6, Tryd.ntmps6
      go_wp2_with (first | (go_at_call 9; refine (K9.out _ (by go_grown)).mono ?_; rintro e w1 ⟨rfl, hb1⟩; have hg1 := below_step (B := W.heap.size) (w := W) (by go_grown) (by go_size) hb1; clear hb1) | (go_at_call 20; refine (new_ok _ _ _ h0 h5).mono ?_; rintro e w2 ⟨rfl, rfl⟩))
      go_loopw [10] (fun i wr => ∃ k : Nat, i = .int .i64 k ∧ k ≤ 200 ∧ Below W.heap.size W wr ∧ ∃ s a l b t, StayI r s a l b t ∧ wr.heap[w1.heap.size + 1 + 1]? = some (.cells #[.int .i64 s, .int .i64 a, .int .i64 l, .bool b, .bool t] 24 (0, 0))) (fun i _ => 201 - (intOf i).toNat)
      case atStart => exact ⟨0, rfl, by omega, by have := hg1.size; go_grown, _, _, _, _, _, HI0.out _ (by simp), heap_new2 w1 _ _ _⟩
      case round =>
        obtain ⟨k, rfl, hk, hg3, s, a, l, b, t, hI, A3⟩ := hrel
        by_cases hlt : k < len ∧ k < 200
        · obtain ⟨hl1, hl2⟩ := hlt
          obtain ⟨blk, off, rfl, hblk, hcs⟩ := ints_at HZ.out hl1
          obtain ⟨cA30, cA31, cA32, cA33, cA34⟩ := five A3
          have hx : wr.cell? ⟨blk, off + k, none⟩ = some (.int .i64 (zs.getD k 0)) := by rw [hg3.cell (p := ⟨blk, off + k, none⟩) hblk]; exact hcs
          generalize zs.getD k 0 = sg at hx
          have zB := block_lt_of_cell hx
          have HA3 := hid A3
          have HI := hid hI
          have zA3 := lt_of A3
          clear A3 hI hcs
          have kn : ∀ w, Below W.heap.size W w → Calls Tryd.prog 10 #[.agg #[.int .i64 s, .int .i64 a, .int .i64 l, .bool b, .bool t], .int .i64 sg] w fun e w' => e = .returned (rv (nextF s a l b t sg)) ∧ Below w.heap.size w w' := fun w hw => next_any s a l b t sg w (HT.out.below hw)
          have HN : ∃ s' a' l' b' t' e', (∀ w, Below W.heap.size W w → Calls Tryd.prog 10 #[.agg #[.int .i64 s, .int .i64 a, .int .i64 l, .bool b, .bool t], .int .i64 sg] w fun e w' => e = .returned (.tuple #[.agg #[.int .i64 s', .int .i64 a', .int .i64 l', .bool b', .bool t'], .int .i64 e']) ∧ Below w.heap.size w w') ∧
              ((s' = 0 ∧ a' = 0 ∧ l' = 0 ∧ b' = false ∧ t' = false ∧ e' = 100) ∨ (e' = 0 ∧ StayI r s' a' l' b' t' ∧ overB s = false ∧ a ≤ a' ∧ l' ≤ l ∧ a' ≤ r + 1 ∧ a' + l' ≤ r + 1)) := by
            rcases stay_next sg HI.out with hn | ⟨s', a', l', b', t', hn, h1⟩
            · rw [hn] at kn
              exact ⟨0, 0, 0, false, false, 100, kn, .inl ⟨rfl, rfl, rfl, rfl, rfl, rfl⟩⟩
            · rw [hn] at kn
              exact ⟨s', a', l', b', t', 0, kn, .inr ⟨rfl, h1⟩⟩
          clear kn
          obtain ⟨s', a', l', b', t', e', kn, hc⟩ := HN
          have HK := hid kn
          have HC := hid hc
          have HG3 := hid hg3
          clear kn hc hg3
          go_upto_region 10 with fail
          go_cut [11, 12] (fun x f wx => ∃ g : Nat, x = .pointer (some ⟨g, 0, none⟩) ∧ f = .int .i64 e' ∧ w1.heap.size + 1 + 1 < g ∧ Below W.heap.size W wx ∧ wx.heap[g]? = some (.cells #[.int .i64 s', .int .i64 a', .int .i64 l', .bool b', .bool t'] 24 (0, 0)) ∧ wx.heap[w1.heap.size + 1 + 1]? = some (.cells #[.int .i64 s, .int .i64 a, .int .i64 l, .bool b, .bool t] 24 (0, 0)))
          case first =>
            go_region_with (go_at_call 10; first | (refine (HK.out (World.drew wr) ?_).mono ?_; exact HG3.out.drew; rintro e w4 ⟨rfl, hb⟩; have hg4 := hid (below_step HG3.out.drew HG3.out.size hb); have A4 := keep0 (unD hb) HA3.out; have HA4 := hid A4; clear hb A4) | (refine (HK.out (World.drew (wr.alloc (.cells #[.int .i64 0, .int .i64 0, .int .i64 0, .bool false, .bool false] 24))) ?_).mono ?_; exact (HG3.out.alloc HG3.out.size _).drew; rintro e w4 ⟨rfl, hb⟩; have hg4 := hid (below_step (HG3.out.alloc HG3.out.size _).drew (by have := HG3.out.size; go_size) hb); have A4 := keepA (unD hb) HA3.out; have X4 := newA (unD hb); have zX4 := lt_of X4; obtain ⟨cX40, cX41, cX42, cX43, cX44⟩ := five X4; obtain ⟨fX40, fX41, fX42, fX43, fX44⟩ := fiveF X4; have HA4 := hid A4; have HX4 := hid X4; clear hb A4 X4))
            all_goals
              go_wp2_with fail
              go_meet
              refine ⟨_, rfl, rfl, ?_, ?_, ?_, ?_⟩
              · first | (with_reducible exact lt_of HA4.out) | (with_reducible exact zA3)
              · first | (with_reducible exact hg4.out.alloc hg4.out.size _) | (with_reducible exact five_below _ _ _ _ _ hg4.out HG3.out.size)
              · first | (with_reducible exact heap_new w4 _) | (with_reducible exact five_set _ _ _ _ _ HX4.out)
              · first | (with_reducible exact (Below.heap_alloc _ _ _ (lt_of HA4.out)).trans HA4.out) | (with_reducible exact (five_other _ _ _ _ _ (Nat.ne_of_lt zA3)).trans HA4.out)
          case rest =>
            obtain ⟨g, rfl, rfl, hgt, hgx, hX, hA⟩ := hcut
            obtain ⟨cX0, cX1, cX2, cX3, cX4⟩ := five hX
            obtain ⟨cA0, cA1, cA2, cA3, cA4⟩ := five hA
            obtain ⟨fA0, fA1, fA2, fA3, fA4⟩ := fiveF hA
            have zX := lt_of hX
            have zA := lt_of hA
            have HX := hid hX
            have HA := hid hA
            have HGX := hid hgx
            clear hX hA hgx cA30 cA31 cA32 cA33 cA34 hx zA3
            rcases HC.out with ⟨rfl, rfl, rfl, rfl, rfl, rfl⟩ | ⟨rfl, hI', ho, ha, hl, ha2, hal⟩
            · go_wp2_with fail
              go_roundw
              case rel => exact ⟨k + 1, by go_num, by omega, HGX.out, s, a, l, b, t, HI.out, HA.out⟩
              case measure => simp [intOf]; omega
            · obtain ⟨_, _, b1, b2, b3⟩ := right_bd hI'.1
              obtain ⟨_, _, b4, b5, b6⟩ := right_bd HI.out.1
              have k15 : ∀ w, Calls Tryd.prog 15 #[.int .i64 s] w fun e w' => e = .returned (.bool false) ∧ w = w' := fun w => by rw [← ho]; exact over_any s w
              have k13 : ∀ w, Below W.heap.size W w → Calls Tryd.prog 13 #[.agg #[.int .i64 s', .int .i64 a', .int .i64 l', .bool b', .bool t']] w fun e w' => e = .returned (.bool true) ∧ w.alloc (.cells #[.int .i64 s', .int .i64 a', .int .i64 l', .bool b', .bool t'] 24) = w' := fun w hw => by rw [← hI'.1]; exact right_any s' a' l' b' t' w (HT.out.below hw)
              have K15 := hid k15
              have K13 := hid k13
              have HI' := hid hI'
              clear k15 k13 hI' ho
              go_wp2_with (first | (go_at_call 15; refine (K15.out _).mono ?_; rintro e w' ⟨rfl, rfl⟩) | (go_at_call 13; refine (K13.out _ HGX.out).mono ?_; rintro e w' ⟨rfl, rfl⟩))
              go_roundw
              case rel =>
                refine ⟨k + 1, by go_num, by omega, ?_, s', a', l', b', t', HI'.out, ?_⟩
                · refine Below.alloc (five_below _ _ _ _ _ HGX.out ?_) ?_ _
                  · have := hg1.size
                    omega
                  · simp only [World.size_setCell]
                    exact HGX.out.size
                · refine (Below.heap_alloc _ _ _ ?_).trans (five_set _ _ _ _ _ HA.out)
                  simp only [World.size_setCell]
                  exact zA
              case measure => simp [intOf]; omega
        · go_wp2_with fail
          all_goals go_returns
          all_goals exact ⟨rfl, hg3⟩
end Go.Proofs.YtlfbooillhleoaaDoor
