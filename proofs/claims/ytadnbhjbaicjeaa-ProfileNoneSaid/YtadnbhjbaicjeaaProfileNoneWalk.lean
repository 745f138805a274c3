/- The Go function ProfileNone, called with any arguments, returns true and leaves all that was there. Condition: none. -/
import Derived.Test.YtadnbhjbaicjeaaOpen
import Derived.Test.YtadnbhjbaicjeaaRows
namespace Go.Proofs.Ytadnbhjbaicjeaa
open Go Go.ChangeShapes Go.WideShapes Go.RowKit

set_option maxRecDepth 100000 in
set_option maxHeartbeats 2000000 in
theorem profileNone_walk {H : Type} {enc : TypeId × Value → H} (W : World) (base : Nat) (args : Array Value) (ds : List (DataW H))
    (hval : ∀ (j : Nat) t v, Try.f6.params[j]? = some t → args[j]? = some v → Value.okWide Try.prog W .any base t v)
    (hA : ∃ p, DataW.TrodAll enc Try.prog W 0 (fun _ => true) true Try.f6.params.toList args.toList ds p) 
    (_ : (DataW.weightsEach Try.prog (Try.f6.params.toList ++ (OpenSpec.ofChange Rows.profileNoneSpec).bare.plain.varTypes Try.prog) (ds ++ [])).all (· ≤ reachBytes) = true)
    (_ : laidMetH Try.prog Rows.profileNoneRow.laid W) (_ : W.ShapedOpen Try.prog) :
    Calls Try.prog 6 args W fun e W' => e = .returned (.bool true) ∧ Below W.heap.size W W' := by
  obtain ⟨p, hA⟩ := hA
  rw [Try.params6] at hA hval
  obtain ⟨v0, v1, v2, d0, d1, d2, p0, p1, p2, hargs, rfl, rfl, h0, h1, h2⟩ := trodAll_three hA
  subst hargs
  obtain ⟨a, rfl, _, _, wa⟩ := open_int Try.underlying3 (hval 0 3 v0 rfl rfl) h0
  obtain ⟨c, rfl, _, _, wc⟩ := open_int Try.underlying3 (hval 1 3 v1 rfl rfl) h1
  obtain ⟨v, rfl, hv⟩ := vec_is (hval 2 23 v2 rfl rfl) h2
  obtain ⟨wa0, wa1⟩ := wf_i64 wa
  clear h0 h1 h2 hval hA wa wc hv
  have KA := hid awake_any
  have KE := hid (earliest_nil a c v)
  have KT := hid (take_nil a c v)
  have KG := hid (give_nil a c v)
  have KAt := hid (fun w => at_nil a w wa0)
  have KF := hid (free_nil a c)
  have KS := hid steps_nil
  have KN : Hid (∀ w1, Calls Try.prog 19 #[.agg #[.int .i64 1, .int .i64 1, .int .i64 1, .int .i64 1]] w1 (NewPr w1 ⟨1, 1, 1, 1⟩)) := hid fun w1 => new_pr ⟨1, 1, 1, 1⟩ (by decide) w1
  have KM : Hid (∀ w1, Calls Try.prog 19 #[.agg #[.int .i64 0, .int .i64 0, .int .i64 0, .int .i64 (-1)]] w1 fun e w' => e = .returned (.pointer none) ∧ Below w1.heap.size w1 w') := hid fun w1 => new_no ⟨0, 0, 0, -1⟩ (by decide) w1
  have KSp := hid (refspan_any a c v)
  have KT2 : Hid (∀ p w1, Pr w1 p ⟨1, 1, 1, 1⟩ (fun _ => ⟨1, 1, 1, 1⟩) → Calls Try.prog 11 #[.pointer (some ⟨p, 0, none⟩), .int .i64 a, .int .i64 c, .agg #[.int .i64 v.a, .int .i64 v.b, .int .i64 v.c, .int .i64 v.d]] w1 fun e w' => (∃ x : Int, e = .returned (.int .i64 x) ∧ (x == 1) = (!(spanF a c v))) ∧ w1.grownBy w' (some p)) := hid fun p w1 hp => by
    refine (take_any p _ _ a c v w1 hp).mono ?_
    rintro e w' (⟨h1, h2, h3⟩ | ⟨h1, h2, h4, h3⟩ | ⟨h1, h2, h4, h3, h5⟩)
    · refine ⟨⟨1, h1, ?_⟩, gb_below h3 _⟩
      unfold spanF
      rcases h2 with h2 | h2 <;> rw [h2] <;> simp
    · refine ⟨⟨60, h1, ?_⟩, gb_below h3 _⟩
      unfold spanF
      rw [h2.1, h2.2]
      rfl
    · refine ⟨⟨0, h1, ?_⟩, h3⟩
      unfold spanF
      rw [h2.1, h2.2]
      rfl
  have hE : ∀ w1, (Op.equalIn 10000 23 (.agg #[.int .i64 0, .int .i64 0, .int .i64 0, .int .i64 0]) (.agg #[.int .i64 0, .int .i64 0, .int .i64 0, .int .i64 0])).run Try.prog w1 = .ok true w1 := fun w1 => eq_v4 ⟨0, 0, 0, 0⟩ ⟨0, 0, 0, 0⟩ w1
  generalize spanF a c v = sp at *
  have X0 := hid (heap_new W (.cells #[.int .i64 v.a, .int .i64 v.b, .int .i64 v.c, .int .i64 v.d] 23))
  have g0 := hid (show Below W.heap.size W (W.alloc (.cells #[.int .i64 v.a, .int .i64 v.b, .int .i64 v.c, .int .i64 v.d] 23)) from by go_grown)
  go_enter Try.func6, Try.ntmps6
  go_wp2_with fail
  refine (KA.out _).mono ?_
  rintro _ w1 ⟨rfl, hb⟩
  have X1 := hid (keep0 hb X0.out)
  have g1 := hid (below_step g0.out g0.out.size hb)
  clear hb
  obtain ⟨x0, x1, x2, x3⟩ := four X1.out
  go_wp2_with fail
  refine (KE.out _).mono ?_
  rintro _ w2 ⟨rfl, hb⟩
  have X2 := hid (keep0 hb X1.out)
  have g2 := hid (below_step g1.out g1.out.size hb)
  clear hb
  obtain ⟨y0, y1, y2, y3⟩ := four X2.out
  go_wp2_with fail
  refine (KT.out _).mono ?_
  rintro _ w3 ⟨rfl, hb⟩
  have X3 := hid (keep0 hb X2.out)
  have g3 := hid (below_step g2.out g2.out.size hb)
  clear hb
  obtain ⟨z0, z1, z2, z3⟩ := four X3.out
  go_wp2_with fail
  refine (KG.out _).mono ?_
  rintro _ w4 ⟨rfl, hb⟩
  have X4 := hid (keep0 hb X3.out)
  have g4 := hid (below_step g3.out g3.out.size hb)
  clear hb
  go_wp2_with fail
  refine (KAt.out _).mono ?_
  rintro _ w5 ⟨rfl, hb⟩
  have X5 := hid (keep0 hb X4.out)
  have g5 := hid (below_step g4.out g4.out.size hb)
  clear hb
  go_wp2_with fail
  refine (KF.out _).mono ?_
  rintro _ w6 ⟨rfl, hb⟩
  have X6 := hid (keep0 hb X5.out)
  have g6 := hid (below_step g5.out g5.out.size hb)
  clear hb
  go_wp2_with fail
  refine (KS.out _).mono ?_
  rintro _ w7 ⟨rfl, hb⟩
  have X7 := hid (keep0 hb X6.out)
  have g7 := hid (below_step g6.out g6.out.size hb)
  clear hb
  go_wp2_with fail
  with_reducible refine (KN.out _).mono ?_
  rintro _ w8 ⟨q, rfl, hq, hql, hb⟩
  have X8 := hid (keep0 hb X7.out)
  have g8 := hid (below_step g7.out g7.out.size hb)
  have Q8 := hid hq
  have hqW : W.heap.size ≤ q := by have := g7.out.size; omega
  clear hb hq hql
  obtain ⟨u0, u1, u2, u3⟩ := four X8.out
  go_wp2_with fail
  refine (KSp.out _).mono ?_
  rintro _ w9 ⟨rfl, hb⟩
  have X9 := hid (keep0 hb X8.out)
  have g9 := hid (below_step g8.out g8.out.size hb)
  have Q9 := hid (Q8.out.keep hb)
  clear hb
  obtain ⟨t0, t1, t2, t3⟩ := four X9.out
  go_wp2_with fail
  refine (KT2.out q _ Q9.out).mono ?_
  rintro _ w10 ⟨⟨x, rfl, hx⟩, hg⟩
  have g10 := hid (show Below W.heap.size W w10 from ⟨hg.os.trans g9.out.os, hg.tape.trans g9.out.tape, hg.output.trans g9.out.output, Nat.le_trans g9.out.size hg.size, fun k hk => (hg.block k (by have := g9.out.size; omega) (fun e => by cases e; omega)).trans (g9.out.block k hk)⟩)
  clear hg
  have HX := hid hx
  have hx2 : ((x == 1) == !sp) = true := by rw [hx]; simp
  clear hx
  go_wp2_with ((go_at_call 19; (with_reducible refine (KM.out _).mono ?_); rintro _ w11 ⟨rfl, hb⟩; have g11 := hid (below_step g10.out g10.out.size hb); clear hb))
  all_goals go_returns
  all_goals exact ⟨rfl, g11.out⟩
end Go.Proofs.Ytadnbhjbaicjeaa
