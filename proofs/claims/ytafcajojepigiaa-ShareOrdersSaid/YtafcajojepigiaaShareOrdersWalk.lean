/- The Go function ShareOrders, called with any three shares, returns true and leaves all that was there. Condition: none. -/
import Derived.Test.YtafcajojepigiaaAwake
import Derived.Test.YtafcajojepigiaaOpen
import Derived.Test.YtafcajojepigiaaRows
namespace Go.Proofs.Ytafcajojepigiaa
open Go Go.ChangeShapes Go.WideShapes Go.RowKit
theorem orders_facts (a b c d e f : Int) : ∃ X Y Z : Int, cmpS a b c d = X ∧ cmpS c d e f = Y ∧ cmpS a b e f = Z ∧ cmpS c d a b = -X ∧
    (X = -1 ∨ X = 0 ∨ X = 1) ∧ (Y = -1 ∨ Y = 0 ∨ Y = 1) ∧ (Z = -1 ∨ Z = 0 ∨ Z = 1) ∧ (0 ≤ X → 0 ≤ Y → 0 ≤ Z) ∧ (X ≤ 0 → Y ≤ 0 → Z ≤ 0) ∧ (Z = 0 → 0 ≤ X → 0 ≤ Y → X = 0 ∧ Y = 0) := by
  refine ⟨_, _, _, rfl, rfl, rfl, cmp_turn a b c d, cmp_range a b c d, cmp_range c d e f, cmp_range a b e f, (cmp_trans a b c d e f).1, (cmp_trans a b c d e f).2, ?_⟩
  intro hz hx hy
  have t1 := (cmp_trans e f a b c d).1
  have t2 := (cmp_trans c d e f a b).1
  have z' := cmp_turn a b e f
  have x' := cmp_turn a b c d
  have y' := cmp_turn c d e f
  constructor
  · have := t2 hy (by omega)
    omega
  · have := t1 (by omega) hx
    omega
set_option maxHeartbeats 4000000 in
theorem shareOrders_walk {H : Type} {enc : TypeId × Value → H} (W : World) (base : Nat) (args : Array Value) (ds : List (DataW H))
    (hval : ∀ (j : Nat) t v, Try.f8.params[j]? = some t → args[j]? = some v → Value.okWide Try.prog W .any base t v)
    (hA : ∃ p, DataW.TrodAll enc Try.prog W 0 (fun _ => true) true Try.f8.params.toList args.toList ds p)
    (_ : (DataW.weightsEach Try.prog (Try.f8.params.toList ++ (OpenSpec.ofChange Rows.shareOrdersSpec).bare.plain.varTypes Try.prog) (ds ++ [])).all (· ≤ reachBytes) = true)
    (_ : laidMetH Try.prog Rows.shareOrdersRow.laid W) (_ : W.ShapedOpen Try.prog) :
    Calls Try.prog 8 args W fun e W' => e = .returned (.bool true) ∧ Below W.heap.size W W' := by
  obtain ⟨p, hA⟩ := hA
  rw [Try.params8] at hA hval
  obtain ⟨v0, v1, v2, d0, d1, d2, p0, p1, p2, hargs, rfl, rfl, h0, h1, h2⟩ := trodAll_three hA
  subst hargs
  obtain ⟨a, b, rfl, ha, hb⟩ := share_is (hval 0 23 v0 rfl rfl) h0
  obtain ⟨c, d, rfl, hc, hd⟩ := share_is (hval 1 23 v1 rfl rfl) h1
  obtain ⟨e, f, rfl, he, hf⟩ := share_is (hval 2 23 v2 rfl rfl) h2
  obtain ⟨X, Y, Z, hX, hY, hZ, hT, rX, rY, rZ, f1, f2, f3⟩ := orders_facts a b c d e f
  have K : ∀ (n k m l r : Int) (w : World), n ≤ 9223372036854775807 ∧ k ≤ 9223372036854775807 ∧ m ≤ 9223372036854775807 ∧ l ≤ 9223372036854775807 → cmpS n k m l = r → Calls Try.prog 11 #[.agg #[.int .i64 n, .int .i64 k], .agg #[.int .i64 m, .int .i64 l]] w fun e w' => e = .returned (.int .i64 r) ∧ Below w.heap.size w w' := fun n k m l r w hh hr => by
    rw [← hr]
    exact compare_any n k m l w hh.1 hh.2.1 hh.2.2.1 hh.2.2.2
  have KX := hid (fun w => K a b c d X w ⟨ha, hb, hc, hd⟩ hX)
  have KY := hid (fun w => K c d e f Y w ⟨hc, hd, he, hf⟩ hY)
  have KZ := hid (fun w => K a b e f Z w ⟨ha, hb, he, hf⟩ hZ)
  have KT := hid (fun w => K c d a b (-X) w ⟨hc, hd, ha, hb⟩ hT)
  have KS := hid (fun w => K a b a b 0 w ⟨ha, hb, ha, hb⟩ (cmp_self a b))
  clear K hX hY hZ hT h0 h1 h2 hval hA ha hb hc hd he hf
  have A0 := hid (show (((W.alloc (.cells #[.int .i64 a, .int .i64 b] 23)).alloc (.cells #[.int .i64 c, .int .i64 d] 23)).alloc (.cells #[.int .i64 e, .int .i64 f] 23)).heap[W.heap.size]? = some (.cells #[.int .i64 a, .int .i64 b] 23) from by
    rw [Below.heap_alloc _ _ _ (by simp; omega), Below.heap_alloc _ _ _ (by simp)]
    exact heap_new W _)
  have B0 := hid (show (((W.alloc (.cells #[.int .i64 a, .int .i64 b] 23)).alloc (.cells #[.int .i64 c, .int .i64 d] 23)).alloc (.cells #[.int .i64 e, .int .i64 f] 23)).heap[W.heap.size + 1]? = some (.cells #[.int .i64 c, .int .i64 d] 23) from by
    rw [Below.heap_alloc _ _ _ (by simp)]
    simpa using heap_new (W.alloc (.cells #[.int .i64 a, .int .i64 b] 23)) (.cells #[.int .i64 c, .int .i64 d] 23))
  have C0 := hid (show (((W.alloc (.cells #[.int .i64 a, .int .i64 b] 23)).alloc (.cells #[.int .i64 c, .int .i64 d] 23)).alloc (.cells #[.int .i64 e, .int .i64 f] 23)).heap[W.heap.size + 1 + 1]? = some (.cells #[.int .i64 e, .int .i64 f] 23) from by
    simpa using heap_new ((W.alloc (.cells #[.int .i64 a, .int .i64 b] 23)).alloc (.cells #[.int .i64 c, .int .i64 d] 23)) (.cells #[.int .i64 e, .int .i64 f] 23))
  have g0 := hid (show Below W.heap.size W (((W.alloc (.cells #[.int .i64 a, .int .i64 b] 23)).alloc (.cells #[.int .i64 c, .int .i64 d] 23)).alloc (.cells #[.int .i64 e, .int .i64 f] 23)) from by go_grown)
  rcases rX with rfl | rfl | rfl <;> rcases rY with rfl | rfl | rfl <;> rcases rZ with rfl | rfl | rfl
  all_goals first | (exfalso; omega) | skip
  all_goals
    clear f1 f2 f3
    go_enter Try.func8, Try.ntmps8
    go_wp2_with fail
    refine (awake_any _).mono ?_
    rintro _ w1 ⟨rfl, hb⟩
    have g1 := hid (below_step g0.out g0.out.size hb)
    have A1 := hid (keep0 hb A0.out)
    obtain ⟨cA10, cA11⟩ := two A1.out
    have B1 := hid (keep0 hb B0.out)
    obtain ⟨cB10, cB11⟩ := two B1.out
    have C1 := hid (keep0 hb C0.out)
    obtain ⟨cC10, cC11⟩ := two C1.out
    clear hb
    go_wp2_with fail
    refine (KX.out _).mono ?_
    rintro _ w2 ⟨rfl, hb⟩
    have g2 := hid (below_step g1.out g1.out.size hb)
    have A2 := hid (keep0 hb A1.out)
    obtain ⟨cA20, cA21⟩ := two A2.out
    clear cA10 cA11
    have B2 := hid (keep0 hb B1.out)
    obtain ⟨cB20, cB21⟩ := two B2.out
    clear cB10 cB11
    have C2 := hid (keep0 hb C1.out)
    obtain ⟨cC20, cC21⟩ := two C2.out
    clear cC10 cC11
    clear hb
    go_wp2_with fail
    refine (KY.out _).mono ?_
    rintro _ w3 ⟨rfl, hb⟩
    have g3 := hid (below_step g2.out g2.out.size hb)
    have A3 := hid (keep0 hb A2.out)
    obtain ⟨cA30, cA31⟩ := two A3.out
    clear cA20 cA21
    have B3 := hid (keep0 hb B2.out)
    obtain ⟨cB30, cB31⟩ := two B3.out
    clear cB20 cB21
    have C3 := hid (keep0 hb C2.out)
    obtain ⟨cC30, cC31⟩ := two C3.out
    clear cC20 cC21
    clear hb
    go_wp2_with fail
    refine (KZ.out _).mono ?_
    rintro _ w4 ⟨rfl, hb⟩
    have g4 := hid (below_step g3.out g3.out.size hb)
    have A4 := hid (keep0 hb A3.out)
    obtain ⟨cA40, cA41⟩ := two A4.out
    clear cA30 cA31
    have B4 := hid (keep0 hb B3.out)
    obtain ⟨cB40, cB41⟩ := two B4.out
    clear cB30 cB31
    have C4 := hid (keep0 hb C3.out)
    obtain ⟨cC40, cC41⟩ := two C4.out
    clear cC30 cC31
    clear hb
    go_wp2_with fail
    refine (KT.out _).mono ?_
    rintro _ w5 ⟨rfl, hb⟩
    have g5 := hid (below_step g4.out g4.out.size hb)
    have A5 := hid (keep0 hb A4.out)
    obtain ⟨cA50, cA51⟩ := two A5.out
    clear cA40 cA41
    have B5 := hid (keep0 hb B4.out)
    obtain ⟨cB50, cB51⟩ := two B5.out
    clear cB40 cB41
    have C5 := hid (keep0 hb C4.out)
    obtain ⟨cC50, cC51⟩ := two C5.out
    clear cC40 cC41
    clear hb
    go_wp2_with fail
    refine (KS.out _).mono ?_
    rintro _ w6 ⟨rfl, hb⟩
    have g6 := hid (below_step g5.out g5.out.size hb)
    have A6 := hid (keep0 hb A5.out)
    obtain ⟨cA60, cA61⟩ := two A6.out
    clear cA50 cA51
    have B6 := hid (keep0 hb B5.out)
    obtain ⟨cB60, cB61⟩ := two B6.out
    clear cB50 cB51
    have C6 := hid (keep0 hb C5.out)
    obtain ⟨cC60, cC61⟩ := two C6.out
    clear cC50 cC51
    clear hb
    go_wp2_with fail
    all_goals go_returns
    all_goals exact ⟨rfl, g6.out⟩
end Go.Proofs.Ytafcajojepigiaa
