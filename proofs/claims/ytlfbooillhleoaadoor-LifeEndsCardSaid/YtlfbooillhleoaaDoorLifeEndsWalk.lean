/- The Go function LifeEnds, called with any retries and row of signs, returns true and leaves all that was there. Condition: the two package-level tables of life stand as the row lists them. -/
import Derived.Test.YtlfbooillhleoaaDoorEnd
import Derived.Deep.RegionWith
import Derived.Deep.DeepCutAuto
import Derived.Test.YtlfbooillhleoaaDoorRows
import Derived.Test.YtlfbooillhleoaaDoorTab
import Derived.Test.YtlfbooillhleoaaDoorOpen
import Derived.ProofKit
namespace Go.Proofs.YtlfbooillhleoaaDoor
open Go Go.ChangeShapes Go.WideShapes Go.RowKit
set_option maxRecDepth 100000 in
set_option maxHeartbeats 8000000 in
theorem lifeEnds_walk {H : Type} {enc : TypeId × Value → H} (W : World) (base : Nat) (args : Array Value) (ds : List (DataW H))
    (hval : ∀ (j : Nat) t v, Tryd.f7.params[j]? = some t → args[j]? = some v → Value.okWide Tryd.prog W .any base t v)
    (hA : ∃ p, DataW.TrodAll enc Tryd.prog W 0 (fun _ => true) true Tryd.f7.params.toList args.toList ds p)
    (_ : (DataW.weightsEach Tryd.prog (Tryd.f7.params.toList ++ (OpenSpec.ofChange Rows.lifeEndsSpec).bare.plain.varTypes Tryd.prog) (ds ++ [])).all (· ≤ reachBytes) = true)
    (hL : laidMetH Tryd.prog Rows.lifeEndsRow.laid W) (_ : W.ShapedOpen Tryd.prog) :
    Calls Tryd.prog 7 args W fun e W' => e = .returned (.bool true) ∧ Below W.heap.size W W' := by
  have hT : Tab W := tab_of hL
  obtain ⟨p, hA⟩ := hA
  rw [Tryd.params7] at hA hval
  obtain ⟨v0, v1, d0, d1, p0, p1, hargs, rfl, rfl, h0, h1⟩ := trodAll_two hA
  subst hargs
  obtain ⟨r, rfl, _, _, wr⟩ := open_int Tryd.underlying3 (hval 0 3 v0 rfl rfl) h0
  obtain ⟨A, len, cap, zs, rfl, hz⟩ := open_signs (hval 1 38 v1 rfl rfl) h1
  clear hval h1 hL hA h0
  have k9 : ∀ w, Below W.heap.size W w → Calls Tryd.prog 9 #[] w fun e w' => e = .returned (.bool true) ∧ Below w.heap.size w w' := fun w hw => awake_any w (hT.below hw)
  have K9 := hid k9
  by_cases hb : r < 0 ∨ 5 < r
  · have N := hid hb
    clear k9 hT hz hb
    go_enter Tryd.func7, Tryd.ntmps7
    go_wp2_with (first | (go_at_call 9; refine (K9.out _ (by go_grown)).mono ?_; rintro e w1 ⟨rfl, hb1⟩; have hg1 := below_step (B := W.heap.size) (w := W) (by go_grown) (by go_size) hb1; clear hb1) | (go_at_call 20; refine (new_bad _ _ _ N.out).mono ?_; rintro e w2 ⟨rfl, rfl⟩))
    all_goals go_returns
    all_goals exact ⟨rfl, by have := hg1.size; go_grown⟩
  · have h0 : 0 ≤ r := by omega
    have h5 : r ≤ 5 := by omega
    clear hb k9
    have HT := hid hT
    have HZ := hid hz
    have hlen : len ≤ 9223372036854775807 := ints_len hz
    have ks : ∀ w, Below W.heap.size W w → Calls Tryd.prog 10 #[.agg #[.int .i64 1, .int .i64 0, .int .i64 r, .bool false, .bool false], .int .i64 3] w fun e w' => e = .returned (.tuple #[.agg #[.int .i64 3, .int .i64 1, .int .i64 r, .bool false, .bool false], .int .i64 0]) ∧ Below w.heap.size w w' := fun w hw => by
      have := next_any 1 0 r false false 3 w (hT.below hw)
      have hr : rightB 1 0 r false false = true := by
        simp only [rightB, decide_eq_true_iff]
        exact ⟨by omega, by omega, by omega, h0, by simp; omega, fun _ => by simp, .inr (by simp)⟩
      have hn : nextF 1 0 r false false 3 = ⟨3, 1, r, false, false, 0⟩ := by simp [nextF, hr, nx]
      rw [hn] at this
      exact this
    have k17 : ∀ w s, (3 ≤ s ∧ s ≤ 4) → Calls Tryd.prog 17 #[.int .i64 s] w fun e w' => e = .returned (.bool true) ∧ w = w' := fun w s hs => by
      have hl : liveB s = true := by simp [liveB, hs]
      rw [← hl]
      exact live_any s w
    have KS := hid ks
    have K17 := hid k17
    clear hT hz ks k17
    go_enter Tryd.func7, Tryd.ntmps7
    go_wp2_with (first | (go_at_call 9; refine (K9.out _ (by go_grown)).mono ?_; rintro e w1 ⟨rfl, hb1⟩; have hg1 := below_step (B := W.heap.size) (w := W) (by go_grown) (by go_size) hb1; clear hb1) | (go_at_call 20; refine (new_ok _ _ _ h0 h5).mono ?_; rintro e w2 ⟨rfl, rfl⟩) | (go_at_call 10; refine (KS.out _ (by have := hg1.size; go_grown)).mono ?_; rintro e w3 ⟨rfl, hb3⟩; have hg3 := below_step (B := W.heap.size) (w := W) (by have := hg1.size; go_grown) (by have := hg1.size; go_size) hb3; have L3 := newA hb3; simp only [World.size_alloc] at L3; obtain ⟨cL0, cL1, cL2, cL3, cL4⟩ := five L3; obtain ⟨fL0, fL1, fL2, fL3, fL4⟩ := fiveF L3; have HL3 := hid L3; clear hb3 L3) | (go_at_call 17; refine (K17.out _ _ (by omega)).mono ?_; rintro e w' ⟨rfl, rfl⟩))
    go_loopw [8, 9, 10, 11] (fun p q g i wr => ∃ (k : Nat) (s : Int) (st wl gn : Bool), p = .bool st ∧ q = .bool wl ∧ g = .bool gn ∧ i = .int .i64 k ∧ k ≤ 100 ∧ EndI s st wl gn ∧ Below W.heap.size W wr ∧ wr.heap[w1.heap.size + 1 + 1]? = some (.cells #[.int .i64 s, .int .i64 1, .int .i64 r, .bool wl, .bool st] 24 (0, 0))) (fun _ _ _ i _ => 101 - (intOf i).toNat)
    case atStart => exact ⟨0, 3, false, false, false, rfl, rfl, rfl, rfl, by omega, .inl ⟨rfl, rfl, rfl, rfl⟩, five_below _ _ _ _ _ hg3 (by have := hg1.size; omega), five_set _ _ _ _ _ HL3.out⟩
    case round =>
      obtain ⟨k, s, st, wl, gn, rfl, rfl, rfl, rfl, hk, hI, hgr, A3⟩ := hrel
      have cA3 := five A3
      have HA3 := hid A3
      have HI := hid hI
      have HG3 := hid hgr
      have zA3 := lt_of A3
      clear A3 hI hgr hg3 HL3 cL0 cL1 cL2 cL3 cL4 fL0 fL1 fL2 fL3 fL4
      by_cases hlt : k < len ∧ k < 100
      · obtain ⟨hl1, hl2⟩ := hlt
        obtain ⟨blk, off, rfl, hblk, hcs⟩ := ints_at HZ.out hl1
        have hx : wr.cell? ⟨blk, off + k, none⟩ = some (.int .i64 (zs.getD k 0)) := by rw [HG3.out.cell (p := ⟨blk, off + k, none⟩) hblk]; exact hcs
        generalize zs.getD k 0 = sg at hx hcs
        have HCS := hid hcs
        have zB := block_lt_of_cell hx
        clear hcs
        by_cases h8 : sg = 8
        · subst h8
          go_wp2_with fail
          go_roundw
          case rel => exact ⟨k + 1, s, st, wl, gn, rfl, rfl, rfl, by go_num, by omega, HI.out, HG3.out, HA3.out⟩
          case measure => simp [intOf]; omega
        · obtain ⟨cA30, cA31, cA32, cA33, cA34⟩ := cA3
          have kn : ∀ w, Below W.heap.size W w → Calls Tryd.prog 10 #[.agg #[.int .i64 s, .int .i64 1, .int .i64 r, .bool wl, .bool st], .int .i64 sg] w fun e w' => e = .returned (rv (nextF s 1 r wl st sg)) ∧ Below w.heap.size w w' := fun w hw => next_any s 1 r wl st sg w (HT.out.below hw)
          have HN : ∃ s' a' l' b' t' e', (∀ w, Below W.heap.size W w → Calls Tryd.prog 10 #[.agg #[.int .i64 s, .int .i64 1, .int .i64 r, .bool wl, .bool st], .int .i64 sg] w fun e w' => e = .returned (.tuple #[.agg #[.int .i64 s', .int .i64 a', .int .i64 l', .bool b', .bool t'], .int .i64 e']) ∧ Below w.heap.size w w') ∧
              ((s' = 0 ∧ a' = 0 ∧ l' = 0 ∧ b' = false ∧ t' = false ∧ e' = 100) ∨ ((sg = 4 ∨ sg = 5 ∨ (sg = 6 ∧ st = false)) ∧ s' = 4 ∧ a' = 1 ∧ l' = r ∧ b' = (wl || sg == 4) ∧ t' = (st || sg == 6) ∧ e' = 0)) := by
            rcases end_next sg h0 h5 HI.out h8 with hn | ⟨h1, hn⟩
            · rw [hn] at kn
              exact ⟨0, 0, 0, false, false, 100, kn, .inl ⟨rfl, rfl, rfl, rfl, rfl, rfl⟩⟩
            · rw [hn] at kn
              exact ⟨_, _, _, _, _, _, kn, .inr ⟨h1, rfl, rfl, rfl, rfl, rfl, rfl⟩⟩
          clear kn
          obtain ⟨s', a', l', b', t', e', kn, hc⟩ := HN
          have HK := hid kn
          have HC := hid hc
          clear kn hc
          go_upto_region 17 with fail
          go_cut [12, 13] (fun x f wx => ∃ g : Nat, x = .pointer (some ⟨g, 0, none⟩) ∧ f = .int .i64 e' ∧ w1.heap.size + 1 + 1 < g ∧ Below W.heap.size W wx ∧ wx.heap[g]? = some (.cells #[.int .i64 s', .int .i64 a', .int .i64 l', .bool b', .bool t'] 24 (0, 0)) ∧ wx.heap[w1.heap.size + 1 + 1]? = some (.cells #[.int .i64 s, .int .i64 1, .int .i64 r, .bool wl, .bool st] 24 (0, 0)))
          case first =>
            go_region_with (go_at_call 10; first | (refine (HK.out (World.drew wr) ?_).mono ?_; exact HG3.out.drew; rintro e w4 ⟨rfl, hb⟩; have hg4 := hid (below_step HG3.out.drew HG3.out.size hb); have A4 := keep0 (unD hb) HA3.out; have HA4 := hid A4; clear hb A4) | (refine (HK.out (World.drew (wr.alloc (.cells #[.int .i64 0, .int .i64 0, .int .i64 0, .bool false, .bool false] 24))) ?_).mono ?_; exact (HG3.out.alloc HG3.out.size _).drew; rintro e w4 ⟨rfl, hb⟩; have hg4 := hid (below_step (HG3.out.alloc HG3.out.size _).drew (by have := HG3.out.size; go_size) hb); have A4 := keepA (unD hb) HA3.out; have X4 := newA (unD hb); have zX4 := lt_of X4; obtain ⟨cX40, cX41, cX42, cX43, cX44⟩ := five X4; obtain ⟨fX40, fX41, fX42, fX43, fX44⟩ := fiveF X4; have HA4 := hid A4; have HX4 := hid X4; clear hb A4 X4))
            all_goals
              go_wp2_with fail
              go_meet
              refine ⟨_, rfl, rfl, ?_, ?_, ?_, ?_⟩
              · first | (with_reducible exact lt_of HA4.out) | (with_reducible exact zA3)
              · first | (with_reducible exact hg4.out.alloc hg4.out.size _) | (with_reducible exact five_below _ _ _ _ _ hg4.out HG3.out.size)
              · first | (with_reducible exact heap_new w4 _) | (with_reducible exact five_set _ _ _ _ _ HX4.out)
              · first | (with_reducible exact (Below.heap_alloc _ _ _ (lt_of HA4.out)).trans HA4.out) | (with_reducible exact (five_other _ _ _ _ _ (Nat.ne_of_lt zA3)).trans HA4.out)
          case rest =>
            obtain ⟨g, rfl, rfl, hgt, hgx, hX, hA⟩ := hcut
            obtain ⟨cX0, cX1, cX2, cX3, cX4⟩ := five hX
            obtain ⟨cA0, cA1, cA2, cA3, cA4⟩ := five hA
            obtain ⟨fA0, fA1, fA2, fA3, fA4⟩ := fiveF hA
            have hxx := (hgx.cell (p := ⟨blk, off + k, none⟩) hblk).trans HCS.out
            have zX := lt_of hX
            have zA := lt_of hA
            have HX := hid hX
            have HA := hid hA
            have HGX := hid hgx
            clear hX hA hgx cA30 cA31 cA32 cA33 cA34 hx zA3 HK
            rcases HC.out with ⟨rfl, rfl, rfl, rfl, rfl, rfl⟩ | ⟨hsg, rfl, rfl, rfl, rfl, rfl, rfl⟩
            · go_wp2_with fail
              go_roundw
              case rel => exact ⟨k + 1, s, st, wl, gn, rfl, rfl, rfl, by go_num, by omega, HI.out, HGX.out, HA.out⟩
              case measure => simp [intOf]; omega
            · have hEnd : ∀ p q : Bool, EndI 4 (st || sg == 6) (wl || sg == 4) (gn || sg == 5) := fun _ _ => .inr ⟨rfl, by
                rcases hsg with rfl | rfl | ⟨rfl, _⟩ <;> simp⟩
              have HE := hid (hEnd true true)
              clear hEnd HC HI
              cases st <;> cases wl <;> cases gn <;> rcases hsg with rfl | rfl | ⟨rfl, hst⟩
              all_goals first | (exfalso; exact Bool.noConfusion hst) | skip
              all_goals
                go_wp2_with (go_at_call 17; refine (K17.out _ _ (by omega)).mono ?_; rintro e w' ⟨rfl, rfl⟩)
                go_roundw
                case rel =>
                  refine ⟨k + 1, 4, _, _, _, rfl, rfl, rfl, by go_num, by omega, HE.out, ?_, ?_⟩
                  · refine five_below _ _ _ _ _ HGX.out ?_
                    have := hg1.size
                    omega
                  · exact five_set _ _ _ _ _ HA.out
                case measure => simp [intOf]; omega
      · obtain ⟨n, l', hn, hnv⟩ := end_over h0 h5 HI.out
        have ko : ∀ w, Below W.heap.size W w → Calls Tryd.prog 10 #[.agg #[.int .i64 s, .int .i64 1, .int .i64 r, .bool wl, .bool st], .int .i64 8] w fun e w' => e = .returned (.tuple #[.agg #[.int .i64 n, .int .i64 1, .int .i64 l', .bool false, .bool false], .int .i64 0]) ∧ Below w.heap.size w w' := fun w hw => by
          have := next_any s 1 r wl st 8 w (HT.out.below hw)
          rw [hn] at this
          exact this
        have KO := hid ko
        obtain ⟨cA30, cA31, cA32, cA33, cA34⟩ := cA3
        clear ko hn HI HA3 HZ HT KS K17 K9
        have hk' : ¬ k < len ∨ (k < len ∧ ¬ k < 100) := by omega
        clear hlt
        have hr : r = 0 ∨ 0 < r := by omega
        rcases hk' with hk1 | ⟨hk1, hk2⟩
        all_goals
          cases st <;> cases wl <;> cases gn <;> rcases hr with rfl | hr
          all_goals
            (try simp at hnv)
            (try simp [hr] at hnv)
            subst hnv
            go_wp2_with (go_at_call 10; refine (KO.out _ HG3.out).mono ?_; rintro e w5 ⟨rfl, hb⟩; have hg5 := below_step HG3.out HG3.out.size hb; clear hb)
            all_goals go_returns
            all_goals exact ⟨rfl, by have := hg5.size; go_grown⟩
end Go.Proofs.YtlfbooillhleoaaDoor
