/- The Go function LeaseNone, called with any arguments, returns true and leaves all that was there. Condition: none. -/
import Derived.Test.YthbbempmppnpkaaOpen
import Derived.Test.YthbbempmppnpkaaRows
namespace Go.Proofs.Ythbbempmppnpkaa
open Go Go.ChangeShapes Go.WideShapes Go.RowKit
set_option maxRecDepth 10000 in
set_option maxHeartbeats 2000000 in
theorem leaseNone_walk {H : Type} {enc : TypeId × Value → H} (W : World) (base : Nat) (args : Array Value) (ds : List (DataW H))
    (hval : ∀ (j : Nat) t v, Try.f7.params[j]? = some t → args[j]? = some v → Value.okWide Try.prog W .any base t v)
    (hA : ∃ p, DataW.TrodAll enc Try.prog W 0 (fun _ => true) true Try.f7.params.toList args.toList ds p) 
    (_ : (DataW.weightsEach Try.prog (Try.f7.params.toList ++ (OpenSpec.ofChange Rows.leaseNoneSpec).bare.plain.varTypes Try.prog) (ds ++ [])).all (· ≤ reachBytes) = true)
    (_ : laidMetH Try.prog Rows.leaseNoneRow.laid W) (_ : W.ShapedOpen Try.prog) :
    Calls Try.prog 7 args W fun e W' => e = .returned (.bool true) ∧ Below W.heap.size W W' := by
  obtain ⟨p, hA⟩ := hA
  rw [Try.params7] at hA hval
  obtain ⟨v0, v1, v2, d0, d1, d2, p0, p1, p2, hargs, rfl, rfl, h0, h1, h2⟩ := trodAll_three hA
  subst hargs
  obtain ⟨c, rfl, hc⟩ := clm_is (hval 0 23 v0 rfl rfl) h0
  obtain ⟨a, rfl, _, _, wa⟩ := open_int Try.underlying3 (hval 1 3 v1 rfl rfl) h1
  obtain ⟨t, rfl, _, _, wt⟩ := open_int Try.underlying3 (hval 2 3 v2 rfl rfl) h2
  clear h0 h1 h2 hval hA wa wt hc
  have KT := hid (fun w => take_nil a t w)
  have KR := hid (fun w => renew_nil c t w)
  have KG := hid (fun w => grant_no none a t w (has_nil a w))
  have KU := hid (fun w => until_no none a w (has_nil a w))
  have KL := hid (fun w => lost_no none a t w (has_nil a w))
  have K17 := hid (fun w => newkeeper_no 17 0 w (.inl (.inr (by decide))))
  have Km1 := hid (fun w => newkeeper_no (-1) 0 w (.inl (.inl (by decide))))
  have K5 : Hid (∀ w, Calls Try.prog 14 #[.agg #[.int .i64 0, .int .i64 0, .int .i64 5], .int .i64 0] w fun e w' => e = .returned (.bool false) ∧ Below w.heap.size w w') := hid fun w => leads_any ⟨0, 0, 5⟩ 0 w
  obtain ⟨e, wh, u⟩ := c
  simp only [Clm.cells] at *
  go_enter Try.func7, Try.ntmps7
  go_wp2_with fail
  refine (awake_any _).mono ?_
  rintro _ w1 ⟨rfl, hbb⟩
  have B1 := hid (keep1 hbb)
  have g1 := hid (show Below W.heap.size W w1 from below_step (by go_grown) (by simp) hbb)
  clear hbb
  go_wp2_with fail
  refine (KT.out _).mono ?_
  rintro _ w2 ⟨rfl, hb⟩
  have B2 := hid (heapA (o := (.cells #[.int .i64 0, .int .i64 0, .int .i64 0] 23)) (keep0 hb B1.out))
  have A2 := hid (heap_new w2 (.cells #[.int .i64 0, .int .i64 0, .int .i64 0] 23))
  have g2 := hid ((below_step g1.out g1.out.size hb).alloc (by have := g1.out.size; have := hb.size; omega) (.cells #[.int .i64 0, .int .i64 0, .int .i64 0] 23))
  obtain ⟨b0, b1, b2⟩ := three B2.out
  clear hb
  go_wp2_with fail
  refine (KR.out _).mono ?_
  rintro _ w3 ⟨rfl, hb⟩
  have A3 := hid (heapA (o := (.cells #[.int .i64 0, .int .i64 0, .int .i64 0] 23)) (keep0 hb A2.out))
  have C3 := hid (heap_new w3 (.cells #[.int .i64 0, .int .i64 0, .int .i64 0] 23))
  have g3 := hid ((below_step g2.out g2.out.size hb).alloc (by have := g2.out.size; have := hb.size; omega) (.cells #[.int .i64 0, .int .i64 0, .int .i64 0] 23))
  obtain ⟨a0, a1, a2⟩ := three A3.out
  obtain ⟨k0, k1, k2⟩ := three C3.out
  clear hb b0 b1 b2
  go_wp2_with fail
  refine (KG.out _).mono ?_
  rintro _ w4 ⟨rfl, rfl⟩
  have K5' := hid (K5.out (w3.alloc (.cells #[.int .i64 0, .int .i64 0, .int .i64 0] 23)))
  go_wp2_with (first
    | (go_at_call 22; refine (KU.out _).mono ?_; rintro _ w5 ⟨rfl, rfl⟩)
    | (go_at_call 23; refine (KL.out _).mono ?_; rintro _ w5 ⟨rfl, rfl⟩)
    | (go_at_call 18; with_reducible refine (K17.out _).mono ?_; rintro _ w5 ⟨rfl, rfl⟩)
    | (go_at_call 18; with_reducible refine (Km1.out _).mono ?_; rintro _ w5 ⟨rfl, rfl⟩)
    | (go_at_call 14; refine K5'.out.mono ?_; rintro _ w5 ⟨rfl, hb⟩; have g5 := hid (below_step g3.out g3.out.size hb); clear hb))
  all_goals go_returns
  all_goals exact ⟨by first | rfl | simp, g5.out⟩
end Go.Proofs.Ythbbempmppnpkaa
