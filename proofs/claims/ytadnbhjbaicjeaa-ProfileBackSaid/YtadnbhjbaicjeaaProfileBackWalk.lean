/- The Go function ProfileBack, called with any arguments, returns true and leaves all that was there. Condition: none. -/
import Derived.Test.YtadnbhjbaicjeaaBackMath
import Derived.Test.YtadnbhjbaicjeaaRows
namespace Go.Proofs.Ytadnbhjbaicjeaa
open Go Go.ChangeShapes Go.WideShapes Go.RowKit
set_option maxRecDepth 100000 in
set_option maxHeartbeats 4000000 in
theorem profileBack_walk {H : Type} {enc : TypeId × Value → H} (W : World) (base : Nat) (args : Array Value) (ds : List (DataW H))
    (hval : ∀ (j : Nat) t v, Try.f3.params[j]? = some t → args[j]? = some v → Value.okWide Try.prog W .any base t v)
    (hA : ∃ p, DataW.TrodAll enc Try.prog W 0 (fun _ => true) true Try.f3.params.toList args.toList ds p) 
    (_ : (DataW.weightsEach Try.prog (Try.f3.params.toList ++ (OpenSpec.ofChange Rows.profileBackSpec).bare.plain.varTypes Try.prog) (ds ++ [])).all (· ≤ reachBytes) = true)
    (_ : laidMetH Try.prog Rows.profileBackRow.laid W) (_ : W.ShapedOpen Try.prog) :
    Calls Try.prog 3 args W fun e W' => e = .returned (.bool true) ∧ Below W.heap.size W W' := by
  obtain ⟨p, hA⟩ := hA
  rw [Try.params3] at hA hval
  obtain ⟨v0, v1, v2, d0, d1, d2, p0, p1, p2, hargs, rfl, rfl, h0, h1, h2⟩ := trodAll_three hA
  subst hargs
  obtain ⟨h, rfl, hh⟩ := vec_is (hval 0 23 v0 rfl rfl) h0
  obtain ⟨A, cap, xs, rfl, hxs, hxl⟩ := acts_is (hval 1 24 v1 rfl rfl) h1
  obtain ⟨a, rfl, ha⟩ := act_is (hval 2 26 v2 rfl rfl) h2
  have HA : Hid (∀ w1, Below W.heap.size W w1 → Acts w1 A xs) := hid fun w1 hb => hxs.keep hb
  obtain ⟨_, ⟨ha0, ha1⟩, ⟨hc0, hc1⟩, hva⟩ := ha
  clear h0 h1 h2 hval hA hxs
  have KA := hid awake_any
  have X0 := hid (show ((W.alloc (.cells #[.int .i64 h.a, .int .i64 h.b, .int .i64 h.c, .int .i64 h.d] 23)).alloc (.cells #[.int .i64 a.k, .int .i64 a.a, .int .i64 a.c, .int .i64 a.v.a, .int .i64 a.v.b, .int .i64 a.v.c, .int .i64 a.v.d] 26)).heap[W.heap.size]? = some (.cells #[.int .i64 h.a, .int .i64 h.b, .int .i64 h.c, .int .i64 h.d] 23 (0, 0)) from heapA (heap_new W _))
  have Y0 := hid (show ((W.alloc (.cells #[.int .i64 h.a, .int .i64 h.b, .int .i64 h.c, .int .i64 h.d] 23)).alloc (.cells #[.int .i64 a.k, .int .i64 a.a, .int .i64 a.c, .int .i64 a.v.a, .int .i64 a.v.b, .int .i64 a.v.c, .int .i64 a.v.d] 26)).heap[W.heap.size + 1]? = some (.cells #[.int .i64 a.k, .int .i64 a.a, .int .i64 a.c, .int .i64 a.v.a, .int .i64 a.v.b, .int .i64 a.v.c, .int .i64 a.v.d] 26 (0, 0)) from by simpa using heap_new (W.alloc (.cells #[.int .i64 h.a, .int .i64 h.b, .int .i64 h.c, .int .i64 h.d] 23)) (.cells #[.int .i64 a.k, .int .i64 a.a, .int .i64 a.c, .int .i64 a.v.a, .int .i64 a.v.b, .int .i64 a.v.c, .int .i64 a.v.d] 26))
  have g0 := hid (show Below W.heap.size W ((W.alloc (.cells #[.int .i64 h.a, .int .i64 h.b, .int .i64 h.c, .int .i64 h.d] 23)).alloc (.cells #[.int .i64 a.k, .int .i64 a.a, .int .i64 a.c, .int .i64 a.v.a, .int .i64 a.v.b, .int .i64 a.v.c, .int .i64 a.v.d] 26)) from by go_grown)
  cases hW : h.okB with
  | false =>
    have KT := hid (taken_no h hW (.slice A xs.length cap))
    clear hW HA
    go_enter Try.func3, Try.ntmps3
    go_wp2_with fail
    refine (KA.out _).mono ?_
    rintro _ w1 ⟨rfl, hb⟩
    have X1 := hid (keep0 hb X0.out)
    have g1 := hid (below_step g0.out g0.out.size hb)
    clear hb
    obtain ⟨x0, x1, x2, x3⟩ := four X1.out
    go_wp2_with fail
    refine (KT.out _).mono ?_
    rintro _ w2 ⟨rfl, hb⟩
    have g2 := hid (below_step g1.out g1.out.size hb)
    clear hb
    go_wp2_with fail
    go_returns
    exact ⟨rfl, g2.out⟩
  | true =>
    have KT := hid (fun w1 hb => taken_ok h hW A cap xs w1 (HA.out w1 hb) hxl)
    clear hW HA
    go_enter Try.func3, Try.ntmps3
    go_wp2_with fail
    refine (KA.out _).mono ?_
    rintro _ w1 ⟨rfl, hb⟩
    have X1 := hid (keep0 hb X0.out)
    have Y1 := hid (keep0 hb Y0.out)
    have g1 := hid (below_step g0.out g0.out.size hb)
    clear hb
    obtain ⟨x0, x1, x2, x3⟩ := four X1.out
    go_wp2_with fail
    refine (KT.out _ g1.out).mono ?_
    rintro _ w2 ⟨p, f, rfl, hp, hpl, hb, hlate⟩
    have X2 := hid (keep0 hb X1.out)
    have Y2 := hid (keep0 hb Y1.out)
    have g2 := hid (below_step g1.out g1.out.size hb)
    have P2 := hid hp
    have HL := hid hlate
    have hpW : W.heap.size + 2 ≤ p := by have := lt_of Y1.out; omega
    clear hb hp hlate hpl x0 x1 x2 x3 KT KA
    obtain ⟨_, y1, y2, y3, y4, y5, y6⟩ := seven Y2.out
    have KF1 := hid (fun f w1 hp => free_pr p h f a.a a.c w1 hp)
    have KF0 := hid (fun f w1 hp => free_pr p h f 0 a.a w1 hp)
    have KS := hid (fun f w1 hp => steps_pr p h f w1 hp)
    have KTk := hid (fun w1 hp => take_any p h f a.a a.c a.v w1 hp)
    have hp2 := P2.out.lt
    obtain ⟨hf1, hf2, hf3, hf4⟩ := P2.out.facts
    have HF := hid (And.intro hf1 (And.intro hf2 (And.intro hf3 hf4)))
    clear hf1 hf2 hf3 hf4 HL
    go_wp2_with fail
    refine (KS.out f _ P2.out).mono ?_
    rintro _ w3 ⟨bw, cw, n, T, V, rfl, hs, hnc, hbw, hn0, hnl, hR, hb⟩
    have Y3 := hid (keep0 hb Y2.out)
    have P3 := hid (P2.out.keep hb)
    have g3 := hid (below_step g2.out g2.out.size hb)
    have S3 := hid hs
    have HR := hid hR
    have hz3 := hb.size
    clear hb hs hR y1 y2 y3 y4 y5 y6
    obtain ⟨_, y1, y2, y3, y4, y5, y6⟩ := seven Y3.out
    go_wp2_with fail
    refine (KF1.out f _ P3.out).mono ?_
    rintro _ w4 ⟨m1, rfl, hm1, hb⟩
    have M1 := hid hm1
    have Y4 := hid (heapA (o := .cells #[.int .i64 m1.a, .int .i64 m1.b, .int .i64 m1.c, .int .i64 m1.d] 23) (keep0 hb Y3.out))
    have P4 := hid ((P3.out.keep hb).keep (show Below w4.heap.size w4 (w4.alloc (.cells #[.int .i64 m1.a, .int .i64 m1.b, .int .i64 m1.c, .int .i64 m1.d] 23)) from by go_grown))
    have S4 := hid ((S3.out.keep hb).keep (show Below w4.heap.size w4 (w4.alloc (.cells #[.int .i64 m1.a, .int .i64 m1.b, .int .i64 m1.c, .int .i64 m1.d] 23)) from by go_grown))
    have B4 := hid (heap_new w4 (.cells #[.int .i64 m1.a, .int .i64 m1.b, .int .i64 m1.c, .int .i64 m1.d] 23))
    have g4 := hid ((below_step g3.out g3.out.size hb).alloc (by have := g3.out.size; have := hb.size; omega) (.cells #[.int .i64 m1.a, .int .i64 m1.b, .int .i64 m1.c, .int .i64 m1.d] 23))
    have hz4 := hb.size
    clear hb hm1 y1 y2 y3 y4 y5 y6
    obtain ⟨_, y1, y2, y3, y4, y5, y6⟩ := seven Y4.out
    go_wp2_with fail
    refine (KF0.out f _ P4.out).mono ?_
    rintro _ w5 ⟨m2, rfl, hm2, hb⟩
    have M2 := hid hm2
    have Y5 := hid (heapA (o := .cells #[.int .i64 m2.a, .int .i64 m2.b, .int .i64 m2.c, .int .i64 m2.d] 23) (keep0 hb Y4.out))
    have P5 := hid ((P4.out.keep hb).keep (show Below w5.heap.size w5 (w5.alloc (.cells #[.int .i64 m2.a, .int .i64 m2.b, .int .i64 m2.c, .int .i64 m2.d] 23)) from by go_grown))
    have S5 := hid ((S4.out.keep hb).keep (show Below w5.heap.size w5 (w5.alloc (.cells #[.int .i64 m2.a, .int .i64 m2.b, .int .i64 m2.c, .int .i64 m2.d] 23)) from by go_grown))
    have B5 := hid (heapA (o := .cells #[.int .i64 m2.a, .int .i64 m2.b, .int .i64 m2.c, .int .i64 m2.d] 23) (keep0 hb B4.out))
    have C5 := hid (heap_new w5 (.cells #[.int .i64 m2.a, .int .i64 m2.b, .int .i64 m2.c, .int .i64 m2.d] 23))
    have g5 := hid ((below_step g4.out g4.out.size hb).alloc (by have := g4.out.size; have := hb.size; omega) (.cells #[.int .i64 m2.a, .int .i64 m2.b, .int .i64 m2.c, .int .i64 m2.d] 23))
    have hz5 : w4.heap.size + 1 ≤ w5.heap.size := by have := hb.size; simpa using this
    clear hb hm2 y1 y2 y3 y4 y5 y6
    obtain ⟨_, y1, y2, y3, y4, y5, y6⟩ := seven Y5.out
    go_wp2_with fail
    refine (KTk.out _ P5.out).mono ?_
    rintro _ w6 (⟨rfl, hq, hb⟩ | ⟨rfl, hq, hq2, hb⟩ | ⟨rfl, hq, hq2, hb, hp6⟩)
    · have P6 := hid (P5.out.keep hb)
      have S6 := hid (S5.out.keep hb)
      have g6 := hid (below_step g5.out g5.out.size hb)
      clear hb hq
      go_wp2_with fail
      refine (KS.out f _ P6.out).mono ?_
      rintro _ w7 ⟨bv, cv, n7, T7, V7, rfl, hs, hnc7, hbv, hn7, hnl7, hR7, hb⟩
      obtain ⟨rfl, hu⟩ := HR.out.unique hR7 (fun _ _ _ => rfl)
      have S7 := hid (S6.out.keep hb)
      have R7 := hid (hs.congr (fun i hi => (hu i hi).1) (fun i hi => (hu i hi).2))
      have g7 := hid (below_step g6.out g6.out.size hb)
      have KE := hid (same_yes bv cv bw cw n T V w7 R7.out S7.out hnc7 hnc hnl)
      clear hs hb hR7 hu
      go_wp2_with fail
      refine KE.out.mono ?_
      rintro _ w8 ⟨rfl, hb⟩
      have g8 := hid (below_step g7.out g7.out.size hb)
      clear hb
      go_wp2_with fail
      go_returns
      exact ⟨rfl, g8.out⟩
    · have P6 := hid (P5.out.keep hb)
      have S6 := hid (S5.out.keep hb)
      have g6 := hid (below_step g5.out g5.out.size hb)
      clear hb hq hq2
      go_wp2_with fail
      refine (KS.out f _ P6.out).mono ?_
      rintro _ w7 ⟨bv, cv, n7, T7, V7, rfl, hs, hnc7, hbv, hn7, hnl7, hR7, hb⟩
      obtain ⟨rfl, hu⟩ := HR.out.unique hR7 (fun _ _ _ => rfl)
      have S7 := hid (S6.out.keep hb)
      have R7 := hid (hs.congr (fun i hi => (hu i hi).1) (fun i hi => (hu i hi).2))
      have g7 := hid (below_step g6.out g6.out.size hb)
      have KE := hid (same_yes bv cv bw cw n T V w7 R7.out S7.out hnc7 hnc hnl)
      clear hs hb hR7 hu
      go_wp2_with fail
      refine KE.out.mono ?_
      rintro _ w8 ⟨rfl, hb⟩
      have g8 := hid (below_step g7.out g7.out.size hb)
      clear hb
      go_wp2_with fail
      go_returns
      exact ⟨rfl, g8.out⟩
    · obtain ⟨s1, s2, s3⟩ := (spanB_iff _ _).1 hq.1
      have hvok := (V4.okB_iff _).1 hq.2
      have n1 : W.heap.size + 1 ≠ p := by omega
      have n2 : bw ≠ p := by omega
      have n3 : w4.heap.size ≠ p := by omega
      have n4 : w5.heap.size ≠ p := by omega
      have P6 := hid hp6
      have Y6 := hid (gb_keep hb Y5.out (by simp; omega))
      have S6 := hid (S5.out.gb hb (by simp; omega))
      have B6 := hid (gb_keep hb B5.out (by simp; omega))
      have C6 := hid (gb_keep hb C5.out (by simp; omega))
      have g6 := hid (gb_step g5.out hb (by omega) g5.out.size)
      have hz6 : w5.heap.size + 1 ≤ w6.heap.size := by have := hb.size; simpa using this
      have KGv := hid (fun w1 hp => give_back p h f a.a a.c a.v w1 hp HF.out.1 hq)
      clear hb hp6 y1 y2 y3 y4 y5 y6 hq2
      obtain ⟨_, y1, y2, y3, y4, y5, y6⟩ := seven Y6.out
      go_wp2_with fail
      refine (KF1.out _ _ P6.out).mono ?_
      rintro _ w7 ⟨m3, rfl, hm3, hb⟩
      have em := M1.out.sub hm3 HF.out.1 hvok s1 s2 s3
      have hr0 := hm3.nonneg HF.out.2.2.2 P6.out.facts.2.2.1
      have hr1 := hm3.upper HF.out.2.2.2
      have hm1r := m_rng (M1.out.nonneg HF.out.2.2.2 HF.out.2.2.1) (M1.out.upper HF.out.2.2.2)
      have HQ := hid (show ∀ i, m3.m i = m1.m i - a.v.m i ∧ 0 ≤ m3.m i ∧ m3.m i ≤ 1073741824 ∧ 0 ≤ m1.m i ∧ m1.m i ≤ 1073741824 from fun i => ⟨by rw [em, m_sub], (m_rng hr0 hr1 i).1, (m_rng hr0 hr1 i).2, (hm1r i).1, (hm1r i).2⟩)
      have Y8 := hid (heapA (o := .cells #[.int .i64 m3.a, .int .i64 m3.b, .int .i64 m3.c, .int .i64 m3.d] 23) (keep0 hb Y6.out))
      have P8 := hid ((P6.out.keep hb).keep (show Below w7.heap.size w7 (w7.alloc (.cells #[.int .i64 m3.a, .int .i64 m3.b, .int .i64 m3.c, .int .i64 m3.d] 23)) from by go_grown))
      have S8 := hid ((S6.out.keep hb).keep (show Below w7.heap.size w7 (w7.alloc (.cells #[.int .i64 m3.a, .int .i64 m3.b, .int .i64 m3.c, .int .i64 m3.d] 23)) from by go_grown))
      have B8 := hid (heapA (o := .cells #[.int .i64 m3.a, .int .i64 m3.b, .int .i64 m3.c, .int .i64 m3.d] 23) (keep0 hb B6.out))
      have C8 := hid (heapA (o := .cells #[.int .i64 m3.a, .int .i64 m3.b, .int .i64 m3.c, .int .i64 m3.d] 23) (keep0 hb C6.out))
      have D8 := hid (heap_new w7 (.cells #[.int .i64 m3.a, .int .i64 m3.b, .int .i64 m3.c, .int .i64 m3.d] 23))
      have g8 := hid ((below_step g6.out g6.out.size hb).alloc (by have := g6.out.size; have := hb.size; omega) (.cells #[.int .i64 m3.a, .int .i64 m3.b, .int .i64 m3.c, .int .i64 m3.d] 23))
      clear hb hm3 em hr0 hr1 hm1r y1 y2 y3 y4 y5 y6 P6 Y6 S6 B6 C6 g6 g5 P5 Y5 S5 B5 C5 P4 Y4 S4 B4 g4 P3 Y3 S3 g3 P2 Y2 X2 g2 KTk
      go_wp2_with fail
      go_loopw [14] (fun x wr => ∃ (k q : Nat), k ≤ 4 ∧ x = .int .i64 k ∧ wr = (w7.alloc (.cells #[.int .i64 m3.a, .int .i64 m3.b, .int .i64 m3.c, .int .i64 m3.d] 23)).drewN q) (fun x _ => 4 - (intOf x).toNat)
      case atStart => exact ⟨0, 0, by omega, rfl, rfl⟩
      case round =>
        obtain ⟨k, q, hk, rfl, rfl⟩ := hrel
        by_cases h4 : k < 4
        · have h4' : (k : Int) < 4 := by omega
          obtain ⟨e1, e2, e3, e4, e5⟩ := HQ.out k
          have cD : (w7.alloc (.cells #[.int .i64 m3.a, .int .i64 m3.b, .int .i64 m3.c, .int .i64 m3.d] 23)).cell? ⟨w7.heap.size, k, none⟩ = some (.int .i64 (m3.m k)) := (cell_of D8.out k).trans (m_at m3 k h4)
          have cB : (w7.alloc (.cells #[.int .i64 m3.a, .int .i64 m3.b, .int .i64 m3.c, .int .i64 m3.d] 23)).cell? ⟨w4.heap.size, k, none⟩ = some (.int .i64 (m1.m k)) := (cell_of B8.out k).trans (m_at m1 k h4)
          have cY : (w7.alloc (.cells #[.int .i64 m3.a, .int .i64 m3.b, .int .i64 m3.c, .int .i64 m3.d] 23)).cell? ⟨W.heap.size + 1, 3 + k, none⟩ = some (.int .i64 (a.v.m k)) := (cell_of Y8.out (3 + k)).trans (act_at _ _ _ a.v k h4)
          generalize m3.m k = u3 at *
          generalize m1.m k = u1 at *
          generalize a.v.m k = uv at *
          have hw : IntKind.i64.wrap (u1 - uv) = u3 := by rw [e1]; exact IntWalk.i64_in _ (by omega)
          have hbq : (u3 == u3) = true := by simp
          have hbn : (u3 != u3) = false := by simp
          obtain ⟨w8, hw8⟩ : ∃ w8, w8 = w7.alloc (.cells #[.int .i64 m3.a, .int .i64 m3.b, .int .i64 m3.c, .int .i64 m3.d] 23) := ⟨_, rfl⟩
          rw [← hw8] at cD cB cY ⊢
          have hw8' := hid hw8
          clear hw8
          have hz : decide (u3 < 0) = false := by simp; omega
          clear e1
          go_wp2_with fail
          go_quiet (fail)
          all_goals go_wp2_with fail
          all_goals go_roundw
          case rel => exact ⟨k + 1, q + nq, by omega, by go_num, by rw [hw8'.out]⟩
          case measure => simp [intOf]; omega
        · obtain rfl : k = 4 := by omega
          obtain ⟨w9, hw9⟩ : ∃ w9, w9 = (w7.alloc (.cells #[.int .i64 m3.a, .int .i64 m3.b, .int .i64 m3.c, .int .i64 m3.d] 23)).drewN q := ⟨_, rfl⟩
          have Y9 := hid (show w9.heap[W.heap.size + 1]? = some (.cells #[.int .i64 a.k, .int .i64 a.a, .int .i64 a.c, .int .i64 a.v.a, .int .i64 a.v.b, .int .i64 a.v.c, .int .i64 a.v.d] 26 (0, 0)) from by rw [hw9]; exact Y8.out)
          have C9 := hid (show w9.heap[w5.heap.size]? = some (.cells #[.int .i64 m2.a, .int .i64 m2.b, .int .i64 m2.c, .int .i64 m2.d] 23 (0, 0)) from by rw [hw9]; exact C8.out)
          have g9 := hid (show Below W.heap.size W w9 from by rw [hw9]; exact dN g8.out q)
          have P9 := hid (show Pr w9.drew p h (chF f a.a a.c fun x => x.sub a.v) from by rw [hw9]; exact P8.out.keep (Below.drew (dN (Below.refl _ _) q)))
          have S9 := hid (show Sl w9 bw n T V from by rw [hw9]; exact S8.out.keep (dN (Below.refl _ _) q))
          rw [← hw9]
          clear hw9 Y8 C8 g8 P8 S8 B8 D8
          obtain ⟨_, y1, y2, y3, y4, y5, y6⟩ := seven Y9.out
          obtain ⟨c0, c1, c2, c3⟩ := four C9.out
          have hE := eq_v4
          have hq2 : m2.eqB m2 = true := (V4.eqB_iff _ _).2 rfl
          have KF4 : Hid (∀ w1, Pr w1 p h (chF f a.a a.c fun x => x.sub a.v) → Calls Try.prog 10 #[.pointer (some ⟨p, 0, none⟩), .int .i64 0, .int .i64 a.a] w1 fun e w' => e = .returned (.agg #[.int .i64 m2.a, .int .i64 m2.b, .int .i64 m2.c, .int .i64 m2.d]) ∧ Below w1.heap.size w1 w') := hid fun w1 hp => by
            refine (KF0.out _ w1 hp).mono ?_
            rintro e w' ⟨m, rfl, hm, hb⟩
            rw [hm.uniq M2.out (fun t t1 t2 t3 t4 => chF_out (by omega))]
            exact ⟨rfl, hb⟩
          have KSt : Hid (∀ w1, Pr w1 p h f → Calls Try.prog 9 #[.pointer (some ⟨p, 0, none⟩)] w1 fun e w' => (∃ bv cv, e = .returned (.slice (some ⟨bv, 0, none⟩) n cv) ∧ Sl w' bv n T V ∧ n ≤ cv) ∧ Below w1.heap.size w1 w') := hid fun w1 hp => by
            refine (KS.out f w1 hp).mono ?_
            rintro e w' ⟨bv, cv, n7, T7, V7, rfl, hs, hnc7, hbv, hn7, hnl7, hR7, hb⟩
            obtain ⟨rfl, hu⟩ := HR.out.unique hR7 (fun _ _ _ => rfl)
            exact ⟨⟨bv, cv, rfl, hs.congr (fun i hi => (hu i hi).1) (fun i hi => (hu i hi).2), hnc7⟩, hb⟩
          have KSm := hid (fun b1 c1 w1 h1 h2 h3 => same_yes b1 c1 bw cw n T V w1 h1 h2 h3 hnc hnl)
          clear HQ M1 M2 HF KS KF0 KF1
          go_wp2_with fail
          go_region_held3 (fun w' => w'.cell? ⟨W.heap.size + 1, 1, none⟩ = some (.int .i64 a.a) ∧ w'.cell? ⟨W.heap.size + 1, 2, none⟩ = some (.int .i64 a.c) ∧ w'.cell? ⟨W.heap.size + 1, 3, none⟩ = some (.int .i64 a.v.a) ∧ w'.cell? ⟨W.heap.size + 1, 4, none⟩ = some (.int .i64 a.v.b) ∧ w'.cell? ⟨W.heap.size + 1, 5, none⟩ = some (.int .i64 a.v.c) ∧ w'.cell? ⟨W.heap.size + 1, 6, none⟩ = some (.int .i64 a.v.d) ∧ w'.cell? ⟨w5.heap.size, 0, none⟩ = some (.int .i64 m2.a) ∧ w'.cell? ⟨w5.heap.size, 1, none⟩ = some (.int .i64 m2.b) ∧ w'.cell? ⟨w5.heap.size, 2, none⟩ = some (.int .i64 m2.c) ∧ w'.cell? ⟨w5.heap.size, 3, none⟩ = some (.int .i64 m2.d)) (first | exact ⟨y1, y2, y3, y4, y5, y6, c0, c1, c2, c3⟩ | exact ⟨ya1, ya2, ya3, ya4, ya5, ya6, ca0, ca1, ca2, ca3⟩ | exact ⟨yb1, yb2, yb3, yb4, yb5, yb6, cb0, cb1, cb2, cb3⟩ | exact ⟨yc1, yc2, yc3, yc4, yc5, yc6, cc0, cc1, cc2, cc3⟩ | exact ⟨yd1, yd2, yd3, yd4, yd5, yd6, cd0, cd1, cd2, cd3⟩ | go_keep) (first
            | (go_at_call 10; (with_reducible refine (KF4.out _ P9.out).mono ?_); rintro _ w10 ⟨rfl, hb⟩; have P10 := hid (P9.out.keep hb); have g10 := hid (below_step g9.out g9.out.size (unD hb)); have Y10 := hid (keep0 (unD hb) Y9.out); have C10 := hid (keep0 (unD hb) C9.out); have S10 := hid (S9.out.keep (unD hb)); obtain ⟨_, ya1, ya2, ya3, ya4, ya5, ya6⟩ := seven Y10.out; obtain ⟨ca0, ca1, ca2, ca3⟩ := four C10.out; clear hb)
            | (go_at_call 13; (with_reducible refine (KGv.out _ P10.out).mono ?_); rintro _ w11 ⟨⟨ex, rfl, hex⟩, hp, hb⟩; have P11 := hid hp; have Y11 := hid (gb_keep hb Y10.out (by simp; omega)); have C11 := hid (gb_keep hb C10.out (by simp; omega)); have S11 := hid (S10.out.gb hb (by simp; omega)); have g11 := hid (gb_step g10.out hb (by omega) g10.out.size); obtain ⟨_, yb1, yb2, yb3, yb4, yb5, yb6⟩ := seven Y11.out; obtain ⟨cb0, cb1, cb2, cb3⟩ := four C11.out; clear hb hp)
            | (go_at_call 9; (with_reducible refine (KSt.out _ P11.out).mono ?_); rintro _ w12 ⟨⟨bv, cv, rfl, hs, hcv⟩, hb⟩; have R12 := hid hs; have Y12 := hid (keep0 hb Y11.out); have C12 := hid (keep0 hb C11.out); have S12 := hid (S11.out.keep hb); have g12 := hid (below_step g11.out g11.out.size hb); obtain ⟨_, yc1, yc2, yc3, yc4, yc5, yc6⟩ := seven Y12.out; obtain ⟨cc0, cc1, cc2, cc3⟩ := four C12.out; clear hb hs)
            | (go_at_call 12; (with_reducible refine (KSm.out bv cv _ R12.out S12.out hcv).mono ?_); rintro _ w13 ⟨rfl, hb⟩; have Y13 := hid (keep0 hb Y12.out); have C13 := hid (keep0 hb C12.out); have g13 := hid (below_step g12.out g12.out.size hb); obtain ⟨_, yd1, yd2, yd3, yd4, yd5, yd6⟩ := seven Y13.out; obtain ⟨cd0, cd1, cd2, cd3⟩ := four C13.out; clear hb))
          all_goals go_wp2_with fail
          all_goals go_returns
          all_goals exact ⟨rfl, g13.out⟩
end Go.Proofs.Ytadnbhjbaicjeaa
