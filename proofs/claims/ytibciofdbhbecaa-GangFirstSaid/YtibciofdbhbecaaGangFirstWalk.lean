/- The Go function GangFirst, called with any arguments, returns true and leaves all that was there. Condition: none. -/
import Derived.Test.YtibciofdbhbecaaGang25
import Derived.Test.YtibciofdbhbecaaRows
namespace Go.Proofs.Ytibciofdbhbecaa
open Go Go.ChangeShapes Go.WideShapes Go.RowKit
set_option maxRecDepth 100000 in
set_option maxHeartbeats 4000000 in
theorem gangFirst_walk {H : Type} {enc : TypeId × Value → H} (W : World) (base : Nat) (args : Array Value) (ds : List (DataW H))
    (hval : ∀ (j : Nat) t v, Try.f5.params[j]? = some t → args[j]? = some v → Value.okWide Try.prog W .any base t v)
    (hA : ∃ p, DataW.TrodAll enc Try.prog W 0 (fun _ => true) true Try.f5.params.toList args.toList ds p) 
    (_ : (DataW.weightsEach Try.prog (Try.f5.params.toList ++ (OpenSpec.ofChange Rows.gangFirstSpec).bare.plain.varTypes Try.prog) (ds ++ [])).all (· ≤ reachBytes) = true)
    (_ : laidMetH Try.prog Rows.gangFirstRow.laid W) (_ : W.ShapedOpen Try.prog) :
    Calls Try.prog 5 args W fun e W' => e = .returned (.bool true) ∧ Below W.heap.size W W' := by
  obtain ⟨p, hA⟩ := hA
  rw [Try.params5] at hA hval
  obtain ⟨v0, v1, v2, d0, d1, d2, p0, p1, p2, hargs, rfl, rfl, h0, h1, h2⟩ := trodAll_three hA
  subst hargs
  obtain ⟨A, cap, xs, rfl, hV, hxl, _⟩ := vecs_is (hval 0 22 v0 rfl rfl) h0
  obtain ⟨B, capB, ss, rfl, hS, hsl⟩ := acts_is (hval 1 23 v1 rfl rfl) h1
  obtain ⟨a, rfl, ha⟩ := act_is (hval 2 36 v2 rfl rfl) h2
  have HI := hid ha
  have KA := hid awake_any
  have KT := hid (fun w1 (hb : Below W.heap.size W w1) => taken_any W A B cap capB xs ss w1 hb hV hS hxl hsl)
  have X0 := hid (heap_new W (.cells #[.int .i64 a.k, .slice a.A a.xs.length a.cap, .int .i64 a.a, .int .i64 a.c, .int .i64 a.m, .int .i64 a.v.a, .int .i64 a.v.b, .int .i64 a.v.c, .int .i64 a.v.d] 36))
  have g0 := hid (show Below W.heap.size W (W.alloc (.cells #[.int .i64 a.k, .slice a.A a.xs.length a.cap, .int .i64 a.a, .int .i64 a.c, .int .i64 a.m, .int .i64 a.v.a, .int .i64 a.v.b, .int .i64 a.v.c, .int .i64 a.v.d] 36)) from by go_grown)
  clear h0 h1 h2 hval hA ha hV hS hxl hsl
  go_enter Try.func5, Try.ntmps5
  go_wp2_with fail
  refine (KA.out _).mono ?_
  rintro _ w1 ⟨rfl, hb⟩
  have X1 := hid (keep0 hb X0.out)
  have g1 := hid (below_step g0.out g0.out.size hb)
  clear hb KA
  go_wp2_with fail
  refine (KT.out _ g1.out).mono ?_
  rintro _ w2 ⟨hb, hpost⟩
  have X2 := hid (keep0 hb X1.out)
  have g2 := hid (below_step g1.out g1.out.size hb)
  have hW1 := g1.out.size
  clear hb KT
  obtain ⟨_, e1, e2, e3, e4, e5, e6, e7, e8⟩ := nine X2.out
  rcases hpost with rfl | ⟨q, sv, n, ps, Ws, fs, rfl, hp, hps⟩
  · go_wp2_with fail
    go_returns
    exact ⟨rfl, g2.out⟩
  have P2 := hid hp
  have HPS := hid (show ∀ i, i < n → W.heap.size ≤ ps i from fun i hi => Nat.le_trans hW1 (hps i hi))
  clear hp hps hW1
  by_cases hlen : 60 < a.xs.length
  · have hd : decide (60 < a.xs.length) = true := decide_eq_true hlen
    have hd' : (60 : Int) < (a.xs.length : Int) := by omega
    go_wp2_with fail
    go_returns
    exact ⟨rfl, g2.out⟩
  have hd : decide (60 < a.xs.length) = false := decide_eq_false hlen
  have hd' : (a.xs.length : Int) ≤ 60 := by omega
  have KF := hid (fun m k v w1 (hb : Below W.heap.size W w1) (h : PL w1 q sv n ps Ws fs) (hk : k ≤ 9223372036854775807) => find_all q sv n ps Ws fs a.A a.cap a.xs m k a.a v w1 h (HI.out.n.keep hb) HI.out.len hk HI.out.a.2)
  have hcx := HI.out.c.2
  have KO := hid (fun s w1 (hb : Below W.heap.size W w1) (h : PL w1 q sv n ps Ws fs) (h1 : 0 ≤ s) (h2 : s ≤ 1099511627776 - a.c) (hk : 1 ≤ a.c) (hv : a.v.okB = true) => open_any q sv n ps Ws fs a.A a.cap a.xs s (s + a.c) a.v w1 h (HI.out.n.keep hb) HI.out.len ((spanB_iff s (s + a.c)).2 ⟨h1, by omega, by omega⟩) hv)
  have K1 := hid (KF.out a.m a.c a.v w2 g2.out P2.out hcx)
  go_wp2_with fail
  refine K1.out.mono ?_
  rintro _ w3 ⟨hb, ⟨t, v', rfl, ⟨hm1, hk1, hv, hF⟩, _⟩ | ⟨rfl, _⟩⟩
  rotate_left
  · have X3 := hid (keep0 hb X2.out)
    have g3 := hid (below_step g2.out g2.out.size hb)
    clear hb
    clear e1 e2 e3 e4 e5 e6 e7 e8
    obtain ⟨_, e1, e2, e3, e4, e5, e6, e7, e8⟩ := nine X3.out
    go_wp2_with fail
    go_returns
    exact ⟨rfl, g3.out⟩
  have X3 := hid (keep0 hb X2.out)
  have P3 := hid (P2.out.keep hb)
  have g3 := hid (below_step g2.out g2.out.size hb)
  clear hb
  obtain ⟨f1, f2, f3, f4⟩ := hF
  by_cases ht : t = max a.a 0
  · have htb : (t == max a.a 0) = true := by simp [ht]
    clear e1 e2 e3 e4 e5 e6 e7 e8
    obtain ⟨_, e1, e2, e3, e4, e5, e6, e7, e8⟩ := nine X3.out
    clear f1 f2 f3 f4
    go_wp2_with fail
    all_goals go_returns
    all_goals exact ⟨rfl, g3.out⟩
  have htb : (t == max a.a 0) = false := by simpa using ht
  have hlt : max a.a 0 < t := by omega
  have Ka := hid (KO.out (max a.a 0) w3 g3.out P3.out (by omega) (by omega) hk1 hv)
  have L1 := hid (f4 (max a.a 0) (by omega) hlt)
  have L2 := hid (f4 (t - 1) (by omega) (by omega))
  have L3 := hid f3
  have KO2 := hid (fun w1 hb h => KO.out (t - 1) w1 hb h (by omega) (by omega) hk1 hv)
  have KO3 := hid (fun w1 hb h => KO.out t w1 hb h (by omega) f2 hk1 hv)
  obtain ⟨s0, hs0⟩ : ∃ s0, s0 = max a.a 0 := ⟨_, rfl⟩
  have b1 : 0 ≤ s0 := by omega
  have b2 : s0 + a.c ≤ 1099511627776 := by omega
  have b3 : t - 1 + a.c ≤ 1099511627776 := by omega
  have b4 : t + a.c ≤ 1099511627776 := by omega
  have b5 : 0 ≤ t - 1 := by omega
  have b6 : t ≤ 1099511627776 := by omega
  rw [← hs0] at Ka L1 htb
  have hm0 := hid hm1
  clear e1 e2 e3 e4 e5 e6 e7 e8
  obtain ⟨_, e1, e2, e3, e4, e5, e6, e7, e8⟩ := nine X3.out
  clear f1 f2 f3 f4 ht hlt K1 KO KF
  rw [hs0] at htb
  go_wp2_with fail
  rw [← hs0]
  refine Ka.out.mono ?_
  rintro _ w4 ⟨vo, rfl, ho, hb⟩
  have X4 := hid (keep0 hb X3.out)
  have P4 := hid (P3.out.keep hb)
  have g4 := hid (below_step g3.out g3.out.size hb)
  clear hb
  obtain ⟨S1, C1, rfl⟩ := slice_of ho
  have M1 := hid (show ((openL n fs a.xs s0 (s0 + a.c) a.v).length : Int) < a.m from by have := L1.out; omega)
  obtain ⟨n1, hn1⟩ : ∃ n1, n1 = (openL n fs a.xs s0 (s0 + a.c) a.v).length := ⟨_, rfl⟩
  rw [← hn1] at M1 ⊢
  clear ho hn1 L1 Ka
  clear e1 e2 e3 e4 e5 e6 e7 e8
  obtain ⟨_, e1, e2, e3, e4, e5, e6, e7, e8⟩ := nine X4.out
  have Kb := hid (KO2.out w4 g4.out P4.out)
  go_wp2_with fail
  refine Kb.out.mono ?_
  rintro _ w5 ⟨vo, rfl, ho, hb⟩
  have X5 := hid (keep0 hb X4.out)
  have P5 := hid (P4.out.keep hb)
  have g5 := hid (below_step g4.out g4.out.size hb)
  clear hb
  obtain ⟨S2, C2, rfl⟩ := slice_of ho
  have M2 := hid (show ((openL n fs a.xs (t - 1) (t - 1 + a.c) a.v).length : Int) < a.m from by have := L2.out; omega)
  obtain ⟨n2, hn2⟩ : ∃ n2, n2 = (openL n fs a.xs (t - 1) (t - 1 + a.c) a.v).length := ⟨_, rfl⟩
  rw [← hn2] at M2 ⊢
  clear ho hn2 L2 Kb
  clear e1 e2 e3 e4 e5 e6 e7 e8
  obtain ⟨_, e1, e2, e3, e4, e5, e6, e7, e8⟩ := nine X5.out
  have Kc := hid (KO3.out w5 g5.out P5.out)
  go_wp2_with fail
  refine Kc.out.mono ?_
  rintro _ w6 ⟨vo, rfl, ho, hb⟩
  have X6 := hid (keep0 hb X5.out)
  have P6 := hid (P5.out.keep hb)
  have g6 := hid (below_step g5.out g5.out.size hb)
  clear hb
  obtain ⟨S3, C3, rfl⟩ := slice_of ho
  have M3 := hid (show a.m ≤ ((openL n fs a.xs t (t + a.c) a.v).length : Int) from by have := L3.out; omega)
  obtain ⟨n3, hn3⟩ : ∃ n3, n3 = (openL n fs a.xs t (t + a.c) a.v).length := ⟨_, rfl⟩
  rw [← hn3] at M3 ⊢
  clear ho hn3 L3 Kc
  clear e1 e2 e3 e4 e5 e6 e7 e8
  obtain ⟨_, e1, e2, e3, e4, e5, e6, e7, e8⟩ := nine X6.out
  have m1 := M1.out
  have m2 := M2.out
  have m3 := M3.out
  go_wp2_with fail
  go_returns
  exact ⟨rfl, g6.out⟩
end Go.Proofs.Ytibciofdbhbecaa
