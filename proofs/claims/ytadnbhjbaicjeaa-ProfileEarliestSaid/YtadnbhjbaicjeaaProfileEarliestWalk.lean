/- The Go function ProfileEarliest, called with any arguments, returns true and leaves all that was there. Condition: none. -/
import Derived.Test.YtadnbhjbaicjeaaEarlMath
import Derived.Test.YtadnbhjbaicjeaaRows
namespace Go.Proofs.Ytadnbhjbaicjeaa
open Go Go.ChangeShapes Go.WideShapes Go.RowKit
set_option maxRecDepth 100000 in
set_option maxHeartbeats 4000000 in
theorem profileEarliest_walk {H : Type} {enc : TypeId × Value → H} (W : World) (base : Nat) (args : Array Value) (ds : List (DataW H))
    (hval : ∀ (j : Nat) t v, Try.f4.params[j]? = some t → args[j]? = some v → Value.okWide Try.prog W .any base t v)
    (hA : ∃ p, DataW.TrodAll enc Try.prog W 0 (fun _ => true) true Try.f4.params.toList args.toList ds p) 
    (_ : (DataW.weightsEach Try.prog (Try.f4.params.toList ++ (OpenSpec.ofChange Rows.profileEarliestSpec).bare.plain.varTypes Try.prog) (ds ++ [])).all (· ≤ reachBytes) = true)
    (_ : laidMetH Try.prog Rows.profileEarliestRow.laid W) (_ : W.ShapedOpen Try.prog) :
    Calls Try.prog 4 args W fun e W' => e = .returned (.bool true) ∧ Below W.heap.size W W' := by
  obtain ⟨p, hA⟩ := hA
  rw [Try.params4] at hA hval
  obtain ⟨v0, v1, v2, d0, d1, d2, p0, p1, p2, hargs, rfl, rfl, h0, h1, h2⟩ := trodAll_three hA
  subst hargs
  obtain ⟨h, rfl, hh⟩ := vec_is (hval 0 23 v0 rfl rfl) h0
  obtain ⟨A, cap, xs, rfl, hxs, hxl⟩ := acts_is (hval 1 24 v1 rfl rfl) h1
  obtain ⟨a, rfl, ha⟩ := act_is (hval 2 26 v2 rfl rfl) h2
  have HA : Hid (∀ w1, Below W.heap.size W w1 → Acts w1 A xs) := hid fun w1 hb => hxs.keep hb
  obtain ⟨_, ⟨ha0, ha1⟩, ⟨hc0, hc1⟩, hva⟩ := ha
  clear h0 h1 h2 hval hA hxs
  have KA := hid awake_any
  have X0 := hid (show ((W.alloc (.cells #[.int .i64 h.a, .int .i64 h.b, .int .i64 h.c, .int .i64 h.d] 23)).alloc (.cells #[.int .i64 a.k, .int .i64 a.a, .int .i64 a.c, .int .i64 a.v.a, .int .i64 a.v.b, .int .i64 a.v.c, .int .i64 a.v.d] 26)).heap[W.heap.size]? = some (.cells #[.int .i64 h.a, .int .i64 h.b, .int .i64 h.c, .int .i64 h.d] 23 (0, 0)) from heapA (heap_new W _))
  have Y0 := hid (show ((W.alloc (.cells #[.int .i64 h.a, .int .i64 h.b, .int .i64 h.c, .int .i64 h.d] 23)).alloc (.cells #[.int .i64 a.k, .int .i64 a.a, .int .i64 a.c, .int .i64 a.v.a, .int .i64 a.v.b, .int .i64 a.v.c, .int .i64 a.v.d] 26)).heap[W.heap.size + 1]? = some (.cells #[.int .i64 a.k, .int .i64 a.a, .int .i64 a.c, .int .i64 a.v.a, .int .i64 a.v.b, .int .i64 a.v.c, .int .i64 a.v.d] 26 (0, 0)) from by simpa using heap_new (W.alloc (.cells #[.int .i64 h.a, .int .i64 h.b, .int .i64 h.c, .int .i64 h.d] 23)) (.cells #[.int .i64 a.k, .int .i64 a.a, .int .i64 a.c, .int .i64 a.v.a, .int .i64 a.v.b, .int .i64 a.v.c, .int .i64 a.v.d] 26))
  have g0 := hid (show Below W.heap.size W ((W.alloc (.cells #[.int .i64 h.a, .int .i64 h.b, .int .i64 h.c, .int .i64 h.d] 23)).alloc (.cells #[.int .i64 a.k, .int .i64 a.a, .int .i64 a.c, .int .i64 a.v.a, .int .i64 a.v.b, .int .i64 a.v.c, .int .i64 a.v.d] 26)) from by go_grown)
  cases hW : h.okB with
  | false =>
    have KT := hid (taken_no h hW (.slice A xs.length cap))
    clear hW HA
    go_enter Try.func4, Try.ntmps4
    go_wp2_with fail
    refine (KA.out _).mono ?_
    rintro _ w1 ⟨rfl, hb⟩
    have X1 := hid (keep0 hb X0.out)
    have g1 := hid (below_step g0.out g0.out.size hb)
    clear hb
    obtain ⟨x0, x1, x2, x3⟩ := four X1.out
    go_wp2_with fail
    refine (KT.out _).mono ?_
    rintro _ w2 ⟨rfl, hb⟩
    have g2 := hid (below_step g1.out g1.out.size hb)
    clear hb
    go_wp2_with fail
    go_returns
    exact ⟨rfl, g2.out⟩
  | true =>
    have KT := hid (fun w1 hb => taken_ok h hW A cap xs w1 (HA.out w1 hb) hxl)
    have KL := hid (fun w1 hb => late_any A cap xs w1 (HA.out w1 hb) hxl)
    clear hW HA
    go_enter Try.func4, Try.ntmps4
    go_wp2_with fail
    refine (KA.out _).mono ?_
    rintro _ w1 ⟨rfl, hb⟩
    have X1 := hid (keep0 hb X0.out)
    have Y1 := hid (keep0 hb Y0.out)
    have g1 := hid (below_step g0.out g0.out.size hb)
    clear hb
    obtain ⟨x0, x1, x2, x3⟩ := four X1.out
    go_wp2_with fail
    refine (KT.out _ g1.out).mono ?_
    rintro _ w2 ⟨p, f, rfl, hp, hpl, hb, hlate⟩
    have X2 := hid (keep0 hb X1.out)
    have Y2 := hid (keep0 hb Y1.out)
    have g2 := hid (below_step g1.out g1.out.size hb)
    have P2 := hid hp
    have HL := hid hlate
    have hpW : W.heap.size + 2 ≤ p := by have := lt_of Y1.out; omega
    clear hb hp hlate hpl x0 x1 x2 x3 KT KA
    obtain ⟨_, y1, y2, y3, y4, y5, y6⟩ := seven Y2.out
    have KE := hid (fun f w1 hp => earl_er p h f a.a a.c a.v w1 hp ha1)
    have KR := hid (rright4 a.v)
    have KF := hid (rfits4 a.v h)
    go_wp2_with fail
    refine (KE.out f _ P2.out).mono ?_
    rintro _ w3 ⟨t1, b1, rfl, he, hb⟩
    have X3 := hid (keep0 hb X2.out)
    have Y3 := hid (keep0 hb Y2.out)
    have P3 := hid (P2.out.keep hb)
    have g3 := hid (below_step g2.out g2.out.size hb)
    have E1 := hid he
    clear hb he y1 y2 y3 y4 y5 y6 KE
    obtain ⟨_, y1, y2, y3, y4, y5, y6⟩ := seven Y3.out
    cases b1 with
    | false =>
      have hsm := er_some E1.out HL.out
      obtain ⟨rfl, _⟩ := E1.out.2 rfl
      obtain ⟨x0, x1, x2, x3⟩ := four X3.out
      have HZ : ((0 : Int) == 0) = true := rfl
      rcases hsm with q1 | ⟨q1, q2⟩ | ⟨q1, q2, q3⟩ | ⟨q1, q2, q3, q4⟩ | ⟨q1, q2, q3, q4, q5⟩ | ⟨q1, q2, q3, q4, q5, q6⟩
      · go_wp2_with fail
        go_returns
        exact ⟨by first | rfl | simp [*], g3.out⟩
      all_goals
        have hk1 : 1 ≤ a.c := by
          have := q1
          simp at this
          omega
        go_wp2_with (first
          | (go_at_call 15; (with_reducible refine (KR.out _).mono ?_); rintro _ w4 ⟨rfl, hb⟩; have X4 := hid (keep0 hb X3.out); have Y4 := hid (keep0 hb Y3.out); have g4 := hid (below_step g3.out g3.out.size hb); obtain ⟨_, ya1, ya2, ya3, ya4, ya5, ya6⟩ := seven Y4.out; obtain ⟨xa0, xa1, xa2, xa3⟩ := four X4.out; clear hb)
          | (go_at_call 16; (with_reducible refine (KF.out _).mono ?_); rintro _ w5 ⟨rfl, hb⟩; have Y5 := hid (keep0 hb Y4.out); have g5 := hid (below_step g4.out g4.out.size hb); obtain ⟨_, yb1, yb2, yb3, yb4, yb5, yb6⟩ := seven Y5.out; clear hb)
          | (go_at_call 17; (with_reducible refine (KL.out _ g5.out).mono ?_); rintro _ w6 ⟨rfl, hb⟩; have g6 := hid (below_step g5.out g5.out.size hb); clear hb))
        go_returns
        first
          | exact ⟨by first | rfl | simp [*], g6.out⟩
          | exact ⟨by first | rfl | simp [*], g5.out⟩
          | exact ⟨by first | rfl | simp [*], g4.out⟩
    | true =>
      obtain ⟨e1, e2, ⟨e3, e4, e5⟩, e6, e7⟩ := E1.out.1 rfl
      have HE6 := hid e6
      have HE7 := hid e7
      have KF1 := hid (fun w1 hp => free_fits p h f t1 a.c a.v w1 hp e6 e3)
      have KT := hid (fun m (hm : a.v.leB m = true) => rfits_is hm)
      have KN := hid (fun m (hm : a.v.leB m = false) => rfits_is hm)
      have KFn := hid (fun t w1 hp hF h0 hk => free_nofits p h f t a.c a.v w1 hp hF h0 hk)
      have KS := hid (fun w1 hp => steps_pr p h f w1 hp)
      have d1 : decide (t1 < 0) = false := by simp; omega
      have d2 : decide (t1 < a.a) = false := by simp; omega
      have d3 : decide (a.c < 1) = false := by simp; omega
      have w1e : IntKind.i64.wrap (1099511627776 - t1) = 1099511627776 - t1 := IntWalk.i64_in _ (by omega)
      have d4 : decide (1099511627776 - t1 < a.c) = false := by simp; omega
      have w2e : IntKind.i64.wrap (t1 + a.c) = t1 + a.c := IntWalk.i64_in _ (by omega)
      have P3d := hid (show Pr w3.drew p h f from P3.out.keep (Below.drew (Below.refl _ _)))
      clear e6 e7 KR KF KL HL E1
      go_wp2_with fail
      go_region_held3 (fun w' => w'.cell? ⟨W.heap.size + 1, 1, none⟩ = some (.int .i64 a.a) ∧ w'.cell? ⟨W.heap.size + 1, 2, none⟩ = some (.int .i64 a.c) ∧ w'.cell? ⟨W.heap.size + 1, 3, none⟩ = some (.int .i64 a.v.a) ∧ w'.cell? ⟨W.heap.size + 1, 4, none⟩ = some (.int .i64 a.v.b) ∧ w'.cell? ⟨W.heap.size + 1, 5, none⟩ = some (.int .i64 a.v.c) ∧ w'.cell? ⟨W.heap.size + 1, 6, none⟩ = some (.int .i64 a.v.d)) (first | exact ⟨y1, y2, y3, y4, y5, y6⟩ | exact ⟨ya1, ya2, ya3, ya4, ya5, ya6⟩ | exact ⟨yb1, yb2, yb3, yb4, yb5, yb6⟩ | go_keep) (first
        | (go_at_call 10; (with_reducible refine (KF1.out _ P3d.out).mono ?_); rintro _ w4 ⟨⟨m, rfl, hm⟩, hb⟩; have KTm := hid (KT.out m hm); have P4 := hid (P3d.out.keep hb); have Y4 := hid (keep0 (unD hb) Y3.out); have g4 := hid (below_step g3.out g3.out.size (unD hb)); obtain ⟨_, ya1, ya2, ya3, ya4, ya5, ya6⟩ := seven Y4.out; clear hb hm)
        | (go_at_call 16; (with_reducible refine (KTm.out _).mono ?_); rintro _ w5 ⟨rfl, hb⟩; have P5 := hid (P4.out.keep hb); have Y5 := hid (keep0 hb Y4.out); have g5 := hid (below_step g4.out g4.out.size hb); obtain ⟨_, yb1, yb2, yb3, yb4, yb5, yb6⟩ := seven Y5.out; clear hb))
      clear P3 P3d P4 g3 g4 Y3 Y4 X3 d1 d2 d4 w1e w2e KTm KF1 y1 y2 y3 y4 y5 y6 ya1 ya2 ya3 ya4 ya5 ya6 yb1 yb2 yb3 yb4 yb5 yb6
      go_wp2_with fail
      refine (KS.out _ P5.out).mono ?_
      rintro _ w6 ⟨bw, cw, n, T, V, rfl, hs, hnc, hbw, hn0, hnl, hR, hb⟩
      have Y6 := hid (keep0 hb Y5.out)
      have P6 := hid (P5.out.keep hb)
      have g6 := hid (below_step g5.out g5.out.size hb)
      have S6 := hid hs
      have HR := hid hR
      clear hb hs hR hbw P5 Y5 g5 KS
      go_wp2_with fail
      go_loopw [12] (fun x wr => ∃ k : Nat, k ≤ n ∧ x = .int .i64 k ∧ Below W.heap.size W wr ∧ Pr wr p h f ∧ Sl wr bw n T V ∧ wr.heap[W.heap.size + 1]? = some (.cells #[.int .i64 a.k, .int .i64 a.a, .int .i64 a.c, .int .i64 a.v.a, .int .i64 a.v.b, .int .i64 a.v.c, .int .i64 a.v.d] 26 (0, 0))) (fun x _ => n - (intOf x).toNat)
      case atStart => exact ⟨0, Nat.zero_le _, rfl, g6.out, P6.out, S6.out, Y6.out⟩
      case round =>
        clear g6 P6 S6 Y6
        obtain ⟨k, hk, rfl, hg, hp, hs, hy⟩ := hrel
        have HG := hid hg
        have HP := hid hp
        have HS := hid hs
        have HY := hid hy
        clear hg hp hs hy
        obtain ⟨_, y1, y2, y3, y4, y5, y6⟩ := seven HY.out
        by_cases hlt : k < n
        · have hlt' : (k : Int) < (n : Int) := by omega
          obtain ⟨z0, _, _, _, _⟩ := HS.out.cells hlt
          have hu0 : 0 ≤ T k := by
            have := HR.out.le (i := 0) (j := k) (by omega) hlt
            rw [HR.out.zero (by omega)] at this
            exact this
          have EQ := hid (fun (w1 : World) (h1 : Sl w1 bw n T V) => (h1.cells hlt).1)
          generalize T k = u at *
          rcases (by omega : u < a.a ∨ (a.a ≤ u ∧ t1 ≤ u) ∨ (a.a ≤ u ∧ u < t1)) with c1 | ⟨c1, c2⟩ | ⟨c1, c2⟩
          · have f1 : decide (a.a ≤ u) = false := by simp; omega
            go_wp2_with fail
            go_quiet (fail)
            all_goals go_wp2_with fail
            all_goals go_roundw
            case rel => exact ⟨k + 1, by omega, by go_num, dN HG.out _, HP.out.keep (dN (Below.refl _ _) _), HS.out.keep (dN (Below.refl _ _) _), HY.out⟩
            case measure => simp [intOf]; omega
          · have f1 : decide (a.a ≤ u) = true := by simpa using c1
            have f2 : decide (u < t1) = false := by simp; omega
            go_wp2_with fail
            go_quiet (fail)
            all_goals go_wp2_with fail
            all_goals go_roundw
            case rel => exact ⟨k + 1, by omega, by go_num, dN HG.out _, HP.out.keep (dN (Below.refl _ _) _), HS.out.keep (dN (Below.refl _ _) _), HY.out⟩
            case measure => simp [intOf]; omega
          · have f1 : decide (a.a ≤ u) = true := by simpa using c1
            have f2 : decide (u < t1) = true := by simpa using c2
            have w2e : IntKind.i64.wrap (u + a.c) = u + a.c := IntWalk.i64_in _ (by omega)
            have KF1 := hid (fun w1 hp => KFn.out u w1 hp (HE7.out u (by omega) c2) hu0 (by omega))
            have HPd := hid (show Pr wr.drew p h f from HP.out.keep (Below.drew (Below.refl _ _)))
            go_wp2_with fail
            go_region_held3 (fun w' => (w'.cell? ⟨bw, k * 5, none⟩ = some (.int .i64 u)) ∧ w'.cell? ⟨W.heap.size + 1, 1, none⟩ = some (.int .i64 a.a) ∧ w'.cell? ⟨W.heap.size + 1, 2, none⟩ = some (.int .i64 a.c) ∧ w'.cell? ⟨W.heap.size + 1, 3, none⟩ = some (.int .i64 a.v.a) ∧ w'.cell? ⟨W.heap.size + 1, 4, none⟩ = some (.int .i64 a.v.b) ∧ w'.cell? ⟨W.heap.size + 1, 5, none⟩ = some (.int .i64 a.v.c) ∧ w'.cell? ⟨W.heap.size + 1, 6, none⟩ = some (.int .i64 a.v.d)) (first | exact ⟨z0, y1, y2, y3, y4, y5, y6⟩ | exact ⟨za0, ya1, ya2, ya3, ya4, ya5, ya6⟩ | exact ⟨zb0, yb1, yb2, yb3, yb4, yb5, yb6⟩ | go_keep) (first
              | (go_at_call 10; (with_reducible refine (KF1.out _ HPd.out).mono ?_); rintro _ w7 ⟨⟨m, rfl, hm⟩, hb⟩; have KTm := hid (KN.out m hm); have P7 := hid (HPd.out.keep hb); have Y7 := hid (keep0 (unD hb) HY.out); have S7 := hid (HS.out.keep (unD hb)); have g7 := hid (below_step HG.out HG.out.size (unD hb)); obtain ⟨_, ya1, ya2, ya3, ya4, ya5, ya6⟩ := seven Y7.out; have za0 := EQ.out _ S7.out; clear hb hm)
              | (go_at_call 16; (with_reducible refine (KTm.out _).mono ?_); rintro _ w8 ⟨rfl, hb⟩; have P8 := hid (P7.out.keep hb); have Y8 := hid (keep0 hb Y7.out); have S8 := hid (S7.out.keep hb); have g8 := hid (below_step g7.out g7.out.size hb); obtain ⟨_, yb1, yb2, yb3, yb4, yb5, yb6⟩ := seven Y8.out; have zb0 := EQ.out _ S8.out; clear hb))
            all_goals go_wp2_with fail
            all_goals go_roundw
            case rel => exact ⟨k + 1, by omega, by go_num, g8.out, P8.out, S8.out, Y8.out⟩
            case measure => simp [intOf]; omega
        · obtain rfl : k = n := by omega
          obtain ⟨mx, hmx⟩ : ∃ mx, max a.a 0 = mx := ⟨_, rfl⟩
          rw [hmx] at e1 HE7
          by_cases ht : t1 = mx
          · subst ht
            go_wp2_with fail
            go_quiet (fail)
            all_goals go_wp2_with fail
            all_goals go_returns
            all_goals exact ⟨by first | rfl | simp, dN HG.out _⟩
          · have f1 : (t1 == mx) = false := by simpa using ht
            have hm0 : 0 ≤ mx := by omega
            have w1e : IntKind.i64.wrap (t1 - 1) = t1 - 1 := IntWalk.i64_in _ (by omega)
            have w2e : IntKind.i64.wrap (t1 - 1 + a.c) = t1 - 1 + a.c := IntWalk.i64_in _ (by omega)
            have KF1 := hid (fun w1 hp => KFn.out (t1 - 1) w1 hp (HE7.out (t1 - 1) (by omega) (by omega)) (by omega) (by omega))
            have HPd := hid (show Pr wr.drew p h f from HP.out.keep (Below.drew (Below.refl _ _)))
            go_wp2_with fail
            go_region_held3 (fun w' => w'.cell? ⟨W.heap.size + 1, 1, none⟩ = some (.int .i64 a.a) ∧ w'.cell? ⟨W.heap.size + 1, 2, none⟩ = some (.int .i64 a.c) ∧ w'.cell? ⟨W.heap.size + 1, 3, none⟩ = some (.int .i64 a.v.a) ∧ w'.cell? ⟨W.heap.size + 1, 4, none⟩ = some (.int .i64 a.v.b) ∧ w'.cell? ⟨W.heap.size + 1, 5, none⟩ = some (.int .i64 a.v.c) ∧ w'.cell? ⟨W.heap.size + 1, 6, none⟩ = some (.int .i64 a.v.d)) (first | exact ⟨y1, y2, y3, y4, y5, y6⟩ | exact ⟨ya1, ya2, ya3, ya4, ya5, ya6⟩ | exact ⟨yb1, yb2, yb3, yb4, yb5, yb6⟩ | go_keep) (first
              | (go_at_call 10; (with_reducible refine (KF1.out _ HPd.out).mono ?_); rintro _ w7 ⟨⟨m, rfl, hm⟩, hb⟩; have KTm := hid (KN.out m hm); have Y7 := hid (keep0 (unD hb) HY.out); have g7 := hid (below_step HG.out HG.out.size (unD hb)); obtain ⟨_, ya1, ya2, ya3, ya4, ya5, ya6⟩ := seven Y7.out; clear hb hm)
              | (go_at_call 16; (with_reducible refine (KTm.out _).mono ?_); rintro _ w8 ⟨rfl, hb⟩; have Y8 := hid (keep0 hb Y7.out); have g8 := hid (below_step g7.out g7.out.size hb); obtain ⟨_, yb1, yb2, yb3, yb4, yb5, yb6⟩ := seven Y8.out; clear hb))
            all_goals go_wp2_with fail
            all_goals go_returns
            all_goals exact ⟨rfl, g8.out⟩
end Go.Proofs.Ytadnbhjbaicjeaa
