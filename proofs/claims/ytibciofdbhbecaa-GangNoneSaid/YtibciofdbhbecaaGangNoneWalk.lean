/- The Go function GangNone, called with any arguments, returns true and leaves all that was there. Condition: none. -/
import Derived.Test.YtibciofdbhbecaaGang23
import Derived.Test.YtibciofdbhbecaaRows
namespace Go.Proofs.Ytibciofdbhbecaa
open Go Go.ChangeShapes Go.WideShapes Go.RowKit
set_option maxRecDepth 100000 in
set_option maxHeartbeats 4000000 in
theorem gangNone_walk {H : Type} {enc : TypeId × Value → H} (W : World) (base : Nat) (args : Array Value) (ds : List (DataW H))
    (hval : ∀ (j : Nat) t v, Try.f8.params[j]? = some t → args[j]? = some v → Value.okWide Try.prog W .any base t v)
    (hA : ∃ p, DataW.TrodAll enc Try.prog W 0 (fun _ => true) true Try.f8.params.toList args.toList ds p) 
    (_ : (DataW.weightsEach Try.prog (Try.f8.params.toList ++ (OpenSpec.ofChange Rows.gangNoneSpec).bare.plain.varTypes Try.prog) (ds ++ [])).all (· ≤ reachBytes) = true)
    (_ : laidMetH Try.prog Rows.gangNoneRow.laid W) (_ : W.ShapedOpen Try.prog) :
    Calls Try.prog 8 args W fun e W' => e = .returned (.bool true) ∧ Below W.heap.size W W' := by
  obtain ⟨p, hA⟩ := hA
  rw [Try.params8] at hA hval
  obtain ⟨v0, d0, hargs, rfl, h0⟩ := trodAll_one hA
  subst hargs
  obtain ⟨a, rfl, ha⟩ := act_is (hval 0 36 v0 rfl rfl) h0
  have HI := hid ha
  have hN := ha.n
  have hl := ha.len
  clear h0 hval hA ha
  have KA := hid awake_any
  have KF := hid (fun w1 (hb : Below W.heap.size W w1) => find_nil a.A a.cap a.xs a.m a.c a.a a.v w1 (hN.keep hb) hl)
  have KT := hid (fun w1 => gtake_bad none 0 (.slice a.A a.xs.length a.cap) a.xs a.a a.c a.v w1 (gangK_nil _ _ _) (.inl (gang_zero _)))
  have KG := hid (fun w1 => ggive_bad none 0 (.slice a.A a.xs.length a.cap) a.xs a.a a.c a.v w1 (gangK_nil _ _ _) (.inl (gang_zero _)))
  have KFr := hid (fun w1 => gfree_no none 0 0 a.a a.c w1 (hasK_nil w1) (by decide))
  have KO := hid (fun w1 (hb : Below W.heap.size W w1) => open_nil a.A a.cap a.xs a.a a.c a.v w1 (hN.keep hb) hl)
  have X0 := hid (heap_new W (.cells #[.int .i64 a.k, .slice a.A a.xs.length a.cap, .int .i64 a.a, .int .i64 a.c, .int .i64 a.m, .int .i64 a.v.a, .int .i64 a.v.b, .int .i64 a.v.c, .int .i64 a.v.d] 36))
  have g0 := hid (show Below W.heap.size W (W.alloc (.cells #[.int .i64 a.k, .slice a.A a.xs.length a.cap, .int .i64 a.a, .int .i64 a.c, .int .i64 a.m, .int .i64 a.v.a, .int .i64 a.v.b, .int .i64 a.v.c, .int .i64 a.v.d] 36)) from by go_grown)
  obtain ⟨z, hz⟩ : ∃ z, z = a.xs.length := ⟨_, rfl⟩
  clear hN hl
  go_enter Try.func8, Try.ntmps8
  go_wp2_with fail
  refine (KA.out _).mono ?_
  rintro _ w1 ⟨rfl, hb⟩
  have X1 := hid (keep0 hb X0.out)
  have g1 := hid (below_step g0.out g0.out.size hb)
  clear hb
  obtain ⟨_, e1, e2, e3, e4, e5, e6, e7, e8⟩ := nine X1.out
  clear KA
  by_cases hlen : 60 < a.xs.length
  · have hd : decide (60 < a.xs.length) = true := decide_eq_true hlen
    have hd' : (60 : Int) < (a.xs.length : Int) := by omega
    go_wp2_with fail
    go_returns
    exact ⟨rfl, g1.out⟩
  have hd : decide (60 < a.xs.length) = false := decide_eq_false hlen
  have hd' : (a.xs.length : Int) ≤ 60 := by omega
  go_wp2_with fail
  refine (KF.out _ g1.out).mono ?_
  rintro _ w2 ⟨rfl, hb⟩
  have X2 := hid (keep0 hb X1.out)
  have g2 := hid (below_step g1.out g1.out.size hb)
  clear hb
  clear e1 e2 e3 e4 e5 e6 e7 e8
  obtain ⟨_, e1, e2, e3, e4, e5, e6, e7, e8⟩ := nine X2.out
  go_wp2_with fail
  refine (KT.out _).mono ?_
  rintro _ w3 ⟨rfl, hb⟩
  have X3 := hid (keep0 hb X2.out)
  have g3 := hid (below_step g2.out g2.out.size hb)
  clear hb
  clear e1 e2 e3 e4 e5 e6 e7 e8
  obtain ⟨_, e1, e2, e3, e4, e5, e6, e7, e8⟩ := nine X3.out
  go_wp2_with fail
  refine (KG.out _).mono ?_
  rintro _ w4 ⟨rfl, hb⟩
  have X4 := hid (keep0 hb X3.out)
  have g4 := hid (below_step g3.out g3.out.size hb)
  clear hb
  clear e1 e2 e3 e4 e5 e6 e7 e8
  obtain ⟨_, e1, e2, e3, e4, e5, e6, e7, e8⟩ := nine X4.out
  go_wp2_with fail
  refine (KFr.out _).mono ?_
  rintro _ w5 ⟨rfl, hb⟩
  have X5 := hid (keep0 hb X4.out)
  have g5 := hid (below_step g4.out g4.out.size hb)
  clear hb
  clear e1 e2 e3 e4 e5 e6 e7 e8
  obtain ⟨_, e1, e2, e3, e4, e5, e6, e7, e8⟩ := nine X5.out
  have hE0 : ∀ w1, (Op.equalIn 10000 34 (.agg #[.int .i64 0, .int .i64 0, .int .i64 0, .int .i64 0]) (.agg #[.int .i64 0, .int .i64 0, .int .i64 0, .int .i64 0])).run Try.prog w1 = .ok true w1 := fun w1 => eq_v4 ⟨0, 0, 0, 0⟩ ⟨0, 0, 0, 0⟩ w1
  have hE1 : ∀ w1, (Op.equalIn 10000 34 (.agg #[.int .i64 1, .int .i64 1, .int .i64 1, .int .i64 1]) (.agg #[.int .i64 1, .int .i64 1, .int .i64 1, .int .i64 1])).run Try.prog w1 = .ok true w1 := fun w1 => eq_v4 ⟨1, 1, 1, 1⟩ ⟨1, 1, 1, 1⟩ w1
  have hE2 : ∀ w1, (Op.equalIn 10000 34 (.agg #[.int .i64 2, .int .i64 2, .int .i64 2, .int .i64 2]) (.agg #[.int .i64 2, .int .i64 2, .int .i64 2, .int .i64 2])).run Try.prog w1 = .ok true w1 := fun w1 => eq_v4 ⟨2, 2, 2, 2⟩ ⟨2, 2, 2, 2⟩ w1
  go_wp2_with fail
  refine (KO.out _ g5.out).mono ?_
  rintro _ w6 ⟨vo, rfl, ho, hb⟩
  have X6 := hid (keep0 hb X5.out)
  have g6 := hid (below_step g5.out g5.out.size hb)
  clear hb
  have hvo : ∃ S c, vo = .slice S 0 c := slice_of ho
  obtain ⟨S, cS, rfl⟩ := hvo
  clear ho e1 e2 e3 e4 e5 e6 e7 e8 KF KT KG KFr KO
  have KN := hid no_new
  go_wp2_with fail
  refine (KN.out _ _ _ (heap_new w6 _)).mono ?_
  rintro _ w7 ⟨q, sv, ps, rfl, hp, hps, hb⟩
  have Q7 := hid hp
  have HPS := hid (show ∀ i, i < 2 → W.heap.size ≤ ps i from fun i hi => by
    have := hps i hi
    have := g6.out.size
    simp at *
    omega)
  have g7 := hid (show Below W.heap.size W w7 from (g6.out.alloc g6.out.size _).trans (hb.mono (by have := g6.out.size; simp; omega)))
  clear hp hps hb KN X0 X1 X2 X3 X4 X5 X6 HI
  have K10 := hid (fun sv ps w h => no_two 1 0 q sv ps w h (by decide))
  have K00 := hid (fun sv ps w h => no_two 0 0 q sv ps w h (by decide))
  have K02 := hid (fun sv ps w h => no_two 0 2 q sv ps w h (by decide))
  go_wp2_with fail
  refine (K10.out sv ps _ Q7.out).mono ?_
  rintro _ w8 ⟨rfl, hb⟩
  have Q8 := hid (Q7.out.keep hb)
  have g8 := hid (below_step g7.out g7.out.size hb)
  clear hb
  go_wp2_with fail
  refine (K00.out sv ps _ Q8.out).mono ?_
  rintro _ w9 ⟨rfl, hb⟩
  have Q9 := hid (Q8.out.keep hb)
  have g9 := hid (below_step g8.out g8.out.size hb)
  clear hb
  go_wp2_with fail
  refine (K02.out sv ps _ Q9.out).mono ?_
  rintro _ w10 ⟨rfl, hb⟩
  have Q10 := hid (Q9.out.keep hb)
  have g10 := hid (below_step g9.out g9.out.size hb)
  clear hb
  have KNn := hid (no_nil q sv ps w10 Q10.out)
  go_wp2_with fail
  refine KNn.out.mono ?_
  rintro _ w11 ⟨rfl, hb⟩
  have Q11 := hid (Q10.out.keep hb)
  have g11 := hid (below_step g10.out g10.out.size hb)
  have KB := hid (no_busy q sv ps w11 Q11.out)
  clear hb
  go_wp2_with fail
  refine KB.out.mono ?_
  rintro _ w12 ⟨rfl, hp, hf⟩
  have Q12 := hid hp
  have g12 := hid (FrP.below g11.out hf HPS.out)
  have KI := hid (no_idle q sv ps w12 hp)
  clear hp hf
  go_wp2_with fail
  refine KI.out.mono ?_
  rintro _ w13 ⟨rfl, hp, hf⟩
  have Q13 := hid hp
  have g13 := hid (FrP.below g12.out hf HPS.out)
  have KF0 : Hid (Calls Try.prog 14 #[.pointer (some ⟨q, 0, none⟩), .int .i64 0, .int .i64 0, .int .i64 5] w13 fun e w' => e = .returned (.agg #[.int .i64 1, .int .i64 1, .int .i64 1, .int .i64 1]) ∧ Below w13.heap.size w13 w') := hid (no_free 0 q sv ps w13 hp (by decide))
  clear hp hf
  go_wp2_with fail
  refine KF0.out.mono ?_
  rintro _ w14 ⟨rfl, hb⟩
  have g14 := hid (below_step g13.out g13.out.size hb)
  have KF1 : Hid (Calls Try.prog 14 #[.pointer (some ⟨q, 0, none⟩), .int .i64 1, .int .i64 0, .int .i64 5] w14 fun e w' => e = .returned (.agg #[.int .i64 2, .int .i64 2, .int .i64 2, .int .i64 2]) ∧ Below w14.heap.size w14 w') := hid (no_free 1 q sv ps w14 (Q13.out.keep hb) (by decide))
  clear hb
  go_wp2_with fail
  refine KF1.out.mono ?_
  rintro _ w15 ⟨rfl, hb⟩
  have g15 := hid (below_step g14.out g14.out.size hb)
  clear hb
  go_wp2_with fail
  go_returns
  exact ⟨rfl, g15.out⟩
end Go.Proofs.Ytibciofdbhbecaa
