/- The Go function GangMore, called with any arguments, returns true and leaves all that was there. Condition: none. -/
import Derived.Test.YtibciofdbhbecaaGang25
import Derived.Test.YtibciofdbhbecaaRows
namespace Go.Proofs.Ytibciofdbhbecaa
open Go Go.ChangeShapes Go.WideShapes Go.RowKit
set_option maxRecDepth 100000 in
set_option maxHeartbeats 4000000 in
theorem gangMore_walk {H : Type} {enc : TypeId × Value → H} (W : World) (base : Nat) (args : Array Value) (ds : List (DataW H))
    (hval : ∀ (j : Nat) t v, Try.f7.params[j]? = some t → args[j]? = some v → Value.okWide Try.prog W .any base t v)
    (hA : ∃ p, DataW.TrodAll enc Try.prog W 0 (fun _ => true) true Try.f7.params.toList args.toList ds p) 
    (_ : (DataW.weightsEach Try.prog (Try.f7.params.toList ++ (OpenSpec.ofChange Rows.gangMoreSpec).bare.plain.varTypes Try.prog) (ds ++ [])).all (· ≤ reachBytes) = true)
    (_ : laidMetH Try.prog Rows.gangMoreRow.laid W) (_ : W.ShapedOpen Try.prog) :
    Calls Try.prog 7 args W fun e W' => e = .returned (.bool true) ∧ Below W.heap.size W W' := by
  obtain ⟨p, hA⟩ := hA
  rw [Try.params7] at hA hval
  obtain ⟨v0, v1, v2, d0, d1, d2, p0, p1, p2, hargs, rfl, rfl, h0, h1, h2⟩ := trodAll_three hA
  subst hargs
  obtain ⟨A, cap, xs, rfl, hV, hxl, _⟩ := vecs_is (hval 0 22 v0 rfl rfl) h0
  obtain ⟨B, capB, ss, rfl, hS, hsl⟩ := acts_is (hval 1 23 v1 rfl rfl) h1
  obtain ⟨a, rfl, ha⟩ := act_is (hval 2 36 v2 rfl rfl) h2
  have HI := hid ha
  have KA := hid awake_any
  have KT := hid (fun w1 (hb : Below W.heap.size W w1) => taken_any W A B cap capB xs ss w1 hb hV hS hxl hsl)
  have X0 := hid (heap_new W (.cells #[.int .i64 a.k, .slice a.A a.xs.length a.cap, .int .i64 a.a, .int .i64 a.c, .int .i64 a.m, .int .i64 a.v.a, .int .i64 a.v.b, .int .i64 a.v.c, .int .i64 a.v.d] 36))
  have g0 := hid (show Below W.heap.size W (W.alloc (.cells #[.int .i64 a.k, .slice a.A a.xs.length a.cap, .int .i64 a.a, .int .i64 a.c, .int .i64 a.m, .int .i64 a.v.a, .int .i64 a.v.b, .int .i64 a.v.c, .int .i64 a.v.d] 36)) from by go_grown)
  clear h0 h1 h2 hval hA ha hV hS hxl hsl
  go_enter Try.func7, Try.ntmps7
  go_wp2_with fail
  refine (KA.out _).mono ?_
  rintro _ w1 ⟨rfl, hb⟩
  have X1 := hid (keep0 hb X0.out)
  have g1 := hid (below_step g0.out g0.out.size hb)
  clear hb KA
  go_wp2_with fail
  refine (KT.out _ g1.out).mono ?_
  rintro _ w2 ⟨hb, hpost⟩
  have X2 := hid (keep0 hb X1.out)
  have g2 := hid (below_step g1.out g1.out.size hb)
  have hW1 := g1.out.size
  clear hb KT
  obtain ⟨_, e1, e2, e3, e4, e5, e6, e7, e8⟩ := nine X2.out
  rcases hpost with rfl | ⟨q, sv, n, ps, Ws, fs, rfl, hp, hps⟩
  · go_wp2_with fail
    go_returns
    exact ⟨rfl, g2.out⟩
  have P2 := hid hp
  have HPS := hid (show ∀ i, i < n → W.heap.size ≤ ps i from fun i hi => Nat.le_trans hW1 (hps i hi))
  clear hp hps hW1
  by_cases hlen : 60 < a.xs.length
  · have hd : decide (60 < a.xs.length) = true := decide_eq_true hlen
    have hd' : (60 : Int) < (a.xs.length : Int) := by omega
    go_wp2_with fail
    go_returns
    exact ⟨rfl, g2.out⟩
  have hd : decide (60 < a.xs.length) = false := decide_eq_false hlen
  have hd' : (a.xs.length : Int) ≤ 60 := by omega
  by_cases hm2 : a.m < 2
  · have hmd : decide (a.m < 2) = true := decide_eq_true hm2
    go_wp2_with fail
    go_returns
    exact ⟨rfl, g2.out⟩
  have hmd : decide (a.m < 2) = false := decide_eq_false hm2
  have hmd' : 2 ≤ a.m := by omega
  by_cases hk2 : a.c < 2
  · have hkd : decide (a.c < 2) = true := decide_eq_true hk2
    go_wp2_with fail
    go_returns
    exact ⟨rfl, g2.out⟩
  have hkd : decide (a.c < 2) = false := decide_eq_false hk2
  have hkd' : 2 ≤ a.c := by omega
  have KF := hid (fun m k v w1 (hb : Below W.heap.size W w1) (h : PL w1 q sv n ps Ws fs) (hk : k ≤ 9223372036854775807) => find_all q sv n ps Ws fs a.A a.cap a.xs m k a.a v w1 h (HI.out.n.keep hb) HI.out.len hk HI.out.a.2)
  have hmx := HI.out.m.2
  have hcx := HI.out.c.2
  have K1 := hid (KF.out a.m a.c a.v w2 g2.out P2.out hcx)
  go_wp2_with fail
  refine K1.out.mono ?_
  rintro _ w3 ⟨hb, ⟨t, v', rfl, ⟨_, hk1, hv, hF⟩, _⟩ | ⟨rfl, _⟩⟩
  rotate_left
  · have g3 := hid (below_step g2.out g2.out.size hb)
    clear hb
    go_wp2_with fail
    go_returns
    exact ⟨rfl, g3.out⟩
  have X3 := hid (keep0 hb X2.out)
  have P3 := hid (P2.out.keep hb)
  have g3 := hid (below_step g2.out g2.out.size hb)
  clear hb
  obtain ⟨f1, f2, f3, _⟩ := hF
  have hm3 : (a.m - 1).toNat ≤ (openL n fs a.xs t (t + a.c) a.v).length := by omega
  have hc3 : a.m.toNat ≤ (openL n fs a.xs t (t + (a.c - 1)) a.v).length := Nat.le_trans f3 (openL_mono fun i hi => op_short hi (by omega))
  have hz3 : a.m.toNat ≤ (openL n fs a.xs t (t + a.c) ⟨0, 0, 0, 0⟩).length := Nat.le_trans f3 (openL_mono fun i hi => op_less hi (by
    have := (V4.okB_iff _).1 hv
    simp [V4.ok, V4.le] at *
    omega))
  have H1 := hid (fun w1 e w' h => findR_le (w := w1) (e := e) (w' := w') (m := a.m - 1) (k := a.c) (v := a.v) h (by omega) (by omega) hv f1 f2 hm3)
  have H2 := hid (fun w1 e w' h => findR_le (w := w1) (e := e) (w' := w') (m := a.m) (k := a.c - 1) (v := a.v) h (by omega) (by omega) hv f1 (by omega) hc3)
  have H3 := hid (fun w1 e w' h => findR_le (w := w1) (e := e) (w' := w') (m := a.m) (k := a.c) (v := ⟨0, 0, 0, 0⟩) h (by omega) (by omega) (by decide) f1 f2 hz3)
  clear f1 f2 f3 hm3 hc3 hz3 hv K1
  clear e1 e2 e3 e4 e5 e6 e7 e8
  obtain ⟨_, e1, e2, e3, e4, e5, e6, e7, e8⟩ := nine X3.out
  have K2 := hid (KF.out (a.m - 1) a.c a.v w3 g3.out P3.out hcx)
  go_wp2_with fail
  refine K2.out.mono ?_
  intro e w4 hR
  obtain ⟨u1, l1, rfl, hu1, _, ho, hb⟩ := H1.out _ _ _ hR
  have X4 := hid (keep0 hb X3.out)
  have P4 := hid (P3.out.keep hb)
  have g4 := hid (below_step g3.out g3.out.size hb)
  clear hb
  obtain ⟨S1, C1, rfl⟩ := slice_of ho
  clear ho hR H1 K2
  clear e1 e2 e3 e4 e5 e6 e7 e8
  obtain ⟨_, e1, e2, e3, e4, e5, e6, e7, e8⟩ := nine X4.out
  have K3 := hid (KF.out a.m (a.c - 1) a.v w4 g4.out P4.out (by omega))
  go_wp2_with fail
  refine K3.out.mono ?_
  intro e w5 hR
  obtain ⟨u2, l2, rfl, hu2, _, ho, hb⟩ := H2.out _ _ _ hR
  have X5 := hid (keep0 hb X4.out)
  have P5 := hid (P4.out.keep hb)
  have g5 := hid (below_step g4.out g4.out.size hb)
  clear hb
  obtain ⟨S2, C2, rfl⟩ := slice_of ho
  clear ho hR H2 K3
  clear e1 e2 e3 e4 e5 e6 e7 e8
  obtain ⟨_, e1, e2, e3, e4, e5, e6, e7, e8⟩ := nine X5.out
  have K4 : Hid (Calls Try.prog 17 #[.pointer (some ⟨q, 0, none⟩), .slice a.A a.xs.length a.cap, .int .i64 a.m, .agg #[.int .i64 0, .int .i64 0, .int .i64 0, .int .i64 0], .int .i64 a.c, .int .i64 a.a] w5 (FindR w5 n fs a.xs ⟨0, 0, 0, 0⟩ a.a a.c a.m)) := hid (KF.out a.m a.c ⟨0, 0, 0, 0⟩ w5 g5.out P5.out hcx)
  go_wp2_with fail
  refine K4.out.mono ?_
  intro e w6 hR
  obtain ⟨u3, l3, rfl, hu3, _, ho, hb⟩ := H3.out _ _ _ hR
  have X6 := hid (keep0 hb X5.out)
  have P6 := hid (P5.out.keep hb)
  have g6 := hid (below_step g5.out g5.out.size hb)
  clear hb
  obtain ⟨S3, C3, rfl⟩ := slice_of ho
  clear ho hR H3 K4
  clear e1 e2 e3 e4 e5 e6 e7 e8
  obtain ⟨_, e1, e2, e3, e4, e5, e6, e7, e8⟩ := nine X6.out
  have hcast : (((a.m - 1).toNat : Nat) : Int) = a.m - 1 := by omega
  have hb1 : (((a.m.toNat - 1 : Nat) : Int) == a.m - 1) = true := by simp; omega
  go_wp2_with fail
  go_returns
  exact ⟨rfl, g6.out⟩
end Go.Proofs.Ytibciofdbhbecaa
