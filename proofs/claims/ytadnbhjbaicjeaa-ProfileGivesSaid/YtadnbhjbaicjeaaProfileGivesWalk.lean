/- The Go function ProfileGives, called with any arguments, returns true and leaves all that was there. Condition: none. -/
import Derived.Test.YtadnbhjbaicjeaaEr
import Derived.Test.YtadnbhjbaicjeaaRows
namespace Go.Proofs.Ytadnbhjbaicjeaa
open Go Go.ChangeShapes Go.WideShapes Go.RowKit
set_option maxRecDepth 100000 in
set_option maxHeartbeats 4000000 in
theorem profileGives_walk {H : Type} {enc : TypeId × Value → H} (W : World) (base : Nat) (args : Array Value) (ds : List (DataW H))
    (hval : ∀ (j : Nat) t v, Try.f5.params[j]? = some t → args[j]? = some v → Value.okWide Try.prog W .any base t v)
    (hA : ∃ p, DataW.TrodAll enc Try.prog W 0 (fun _ => true) true Try.f5.params.toList args.toList ds p) 
    (_ : (DataW.weightsEach Try.prog (Try.f5.params.toList ++ (OpenSpec.ofChange Rows.profileGivesSpec).bare.plain.varTypes Try.prog) (ds ++ [])).all (· ≤ reachBytes) = true)
    (_ : laidMetH Try.prog Rows.profileGivesRow.laid W) (_ : W.ShapedOpen Try.prog) :
    Calls Try.prog 5 args W fun e W' => e = .returned (.bool true) ∧ Below W.heap.size W W' := by
  obtain ⟨p, hA⟩ := hA
  rw [Try.params5] at hA hval
  obtain ⟨v0, v1, v2, d0, d1, d2, p0, p1, p2, hargs, rfl, rfl, h0, h1, h2⟩ := trodAll_three hA
  subst hargs
  obtain ⟨h, rfl, hh⟩ := vec_is (hval 0 23 v0 rfl rfl) h0
  obtain ⟨A, cap, xs, rfl, hxs, hxl⟩ := acts_is (hval 1 24 v1 rfl rfl) h1
  obtain ⟨a, rfl, ha⟩ := act_is (hval 2 26 v2 rfl rfl) h2
  have HA : Hid (∀ w1, Below W.heap.size W w1 → Acts w1 A xs) := hid fun w1 hb => hxs.keep hb
  obtain ⟨_, ⟨ha0, ha1⟩, ⟨hc0, hc1⟩, hva⟩ := ha
  clear h0 h1 h2 hval hA hxs
  have KA := hid awake_any
  have X0 := hid (show ((W.alloc (.cells #[.int .i64 h.a, .int .i64 h.b, .int .i64 h.c, .int .i64 h.d] 23)).alloc (.cells #[.int .i64 a.k, .int .i64 a.a, .int .i64 a.c, .int .i64 a.v.a, .int .i64 a.v.b, .int .i64 a.v.c, .int .i64 a.v.d] 26)).heap[W.heap.size]? = some (.cells #[.int .i64 h.a, .int .i64 h.b, .int .i64 h.c, .int .i64 h.d] 23 (0, 0)) from heapA (heap_new W _))
  have Y0 := hid (show ((W.alloc (.cells #[.int .i64 h.a, .int .i64 h.b, .int .i64 h.c, .int .i64 h.d] 23)).alloc (.cells #[.int .i64 a.k, .int .i64 a.a, .int .i64 a.c, .int .i64 a.v.a, .int .i64 a.v.b, .int .i64 a.v.c, .int .i64 a.v.d] 26)).heap[W.heap.size + 1]? = some (.cells #[.int .i64 a.k, .int .i64 a.a, .int .i64 a.c, .int .i64 a.v.a, .int .i64 a.v.b, .int .i64 a.v.c, .int .i64 a.v.d] 26 (0, 0)) from by simpa using heap_new (W.alloc (.cells #[.int .i64 h.a, .int .i64 h.b, .int .i64 h.c, .int .i64 h.d] 23)) (.cells #[.int .i64 a.k, .int .i64 a.a, .int .i64 a.c, .int .i64 a.v.a, .int .i64 a.v.b, .int .i64 a.v.c, .int .i64 a.v.d] 26))
  have g0 := hid (show Below W.heap.size W ((W.alloc (.cells #[.int .i64 h.a, .int .i64 h.b, .int .i64 h.c, .int .i64 h.d] 23)).alloc (.cells #[.int .i64 a.k, .int .i64 a.a, .int .i64 a.c, .int .i64 a.v.a, .int .i64 a.v.b, .int .i64 a.v.c, .int .i64 a.v.d] 26)) from by go_grown)
  cases hW : h.okB with
  | false =>
    have KT := hid (taken_no h hW (.slice A xs.length cap))
    clear hW HA
    go_enter Try.func5, Try.ntmps5
    go_wp2_with fail
    refine (KA.out _).mono ?_
    rintro _ w1 ⟨rfl, hb⟩
    have X1 := hid (keep0 hb X0.out)
    have g1 := hid (below_step g0.out g0.out.size hb)
    clear hb
    obtain ⟨x0, x1, x2, x3⟩ := four X1.out
    go_wp2_with fail
    refine (KT.out _).mono ?_
    rintro _ w2 ⟨rfl, hb⟩
    have g2 := hid (below_step g1.out g1.out.size hb)
    clear hb
    go_wp2_with fail
    go_returns
    exact ⟨rfl, g2.out⟩
  | true =>
    have KT := hid (fun w1 hb => taken_ok h hW A cap xs w1 (HA.out w1 hb) hxl)
    obtain ⟨n, hn⟩ : ∃ n, n = xs.length := ⟨_, rfl⟩
    rw [← hn] at KT hxl ⊢
    have HN := hid hn
    clear hW hn
    go_enter Try.func5, Try.ntmps5
    go_wp2_with fail
    refine (KA.out _).mono ?_
    rintro _ w1 ⟨rfl, hb⟩
    have X1 := hid (keep0 hb X0.out)
    have Y1 := hid (keep0 hb Y0.out)
    have g1 := hid (below_step g0.out g0.out.size hb)
    clear hb
    obtain ⟨x0, x1, x2, x3⟩ := four X1.out
    go_wp2_with fail
    refine (KT.out _ g1.out).mono ?_
    rintro _ w2 ⟨p, f, rfl, hp, hpl, hb, hlate⟩
    have X2 := hid (keep0 hb X1.out)
    have Y2 := hid (keep0 hb Y1.out)
    have g2 := hid (below_step g1.out g1.out.size hb)
    have P2 := hid hp
    have HL := hid hlate
    have hpW : W.heap.size + 2 ≤ p := by have := lt_of Y1.out; omega
    clear hb hp hlate hpl x0 x1 x2 x3 KT KA
    obtain ⟨_, y1, y2, y3, y4, y5, y6⟩ := seven Y2.out
    have KE := hid (fun f w1 hp => earl_er p h f a.a a.c a.v w1 hp ha1)
    by_cases h0 : n = 0
    · subst h0
      go_wp2_with fail
      go_returns
      exact ⟨rfl, g2.out⟩
    · have h0' : ((n : Int) == 0) = false := by simp; omega
      have hn0 : (0 : Int) < (n : Int) := by omega
      have hn1 : 0 < n := by omega
      obtain ⟨s, hs⟩ : ∃ s, xs[0]? = some s := ⟨_, List.getElem?_eq_getElem (by have := HN.out; omega)⟩
      have KG := hid (fun w1 hp => give_some p h f s.a s.c s.v w1 hp)
      obtain ⟨_, bb, off, rfl, hbl, _, c1, c2, c3, c4, c5, c6⟩ := (HA.out _ g2.out).at hs
      have HA2 := hid (fun w1 (hb : Below W.heap.size W w1) => (show w1.cell? ⟨bb, off + 1, none⟩ = some (.int .i64 s.a) ∧ w1.cell? ⟨bb, off + 2, none⟩ = some (.int .i64 s.c) ∧ w1.cell? ⟨bb, off + 3, none⟩ = some (.int .i64 s.v.a) ∧ w1.cell? ⟨bb, off + 4, none⟩ = some (.int .i64 s.v.b) ∧ w1.cell? ⟨bb, off + 5, none⟩ = some (.int .i64 s.v.c) ∧ w1.cell? ⟨bb, off + 6, none⟩ = some (.int .i64 s.v.d) from by
        obtain ⟨_, b', off', e, _, _, d1, d2, d3, d4, d5, d6⟩ := (HA.out w1 hb).at hs
        cases e
        simp only [Nat.zero_mul, Nat.add_zero] at d1 d2 d3 d4 d5 d6
        exact ⟨d1, d2, d3, d4, d5, d6⟩))
      clear c1 c2 c3 c4 c5 c6 hs hbl
      go_wp2_with fail
      refine (KE.out f _ P2.out).mono ?_
      rintro _ w3 ⟨t1, b1, rfl, he, hb⟩
      have Y3 := hid (keep0 hb Y2.out)
      have P3 := hid (P2.out.keep hb)
      have g3 := hid (below_step g2.out g2.out.size hb)
      have E1 := hid he
      clear hb he y1 y2 y3 y4 y5 y6
      obtain ⟨c1, c2, c3, c4, c5, c6⟩ := HA2.out _ g3.out
      have P3d := hid (show Pr w3.drew p h f from P3.out.keep (Below.drew (Below.refl _ _)))
      go_wp2_with fail
      go_region_held3 (fun w' => w'.cell? ⟨bb, off + 1, none⟩ = some (.int .i64 s.a) ∧ w'.cell? ⟨bb, off + 2, none⟩ = some (.int .i64 s.c) ∧ w'.cell? ⟨bb, off + 3, none⟩ = some (.int .i64 s.v.a) ∧ w'.cell? ⟨bb, off + 4, none⟩ = some (.int .i64 s.v.b) ∧ w'.cell? ⟨bb, off + 5, none⟩ = some (.int .i64 s.v.c) ∧ w'.cell? ⟨bb, off + 6, none⟩ = some (.int .i64 s.v.d)) (first | exact ⟨c1, c2, c3, c4, c5, c6⟩ | exact ⟨d1, d2, d3, d4, d5, d6⟩ | go_keep) (first | (go_at_call 13; (with_reducible refine (KG.out _ P3d.out).mono ?_); rintro _ w5 ⟨⟨y, rfl⟩, hf, hb⟩; have F5 := hid hf; have g5 := hid (gb_step (w1 := w3) (w2 := w5) g3.out ⟨hb.os, hb.tape, hb.output, hb.size, hb.block⟩ (by omega) g3.out.size); have Y5 := hid (show w5.heap[W.heap.size + 1]? = _ from (hb.block _ (lt_of Y3.out) (fun e => by cases e; omega)).trans Y3.out); obtain ⟨d1, d2, d3, d4, d5, d6⟩ := HA2.out _ g5.out; clear hf hb))
      obtain ⟨f', hf1, hf2⟩ := F5.out
      have P5 := hid hf1
      have HF := hid hf2
      clear F5 hf1 hf2 d1 d2 d3 d4 d5 d6 c1 c2 c3 c4 c5 c6
      obtain ⟨_, y1, y2, y3, y4, y5, y6⟩ := seven Y5.out
      go_wp2_with fail
      refine (KE.out f' _ P5.out).mono ?_
      rintro _ w6 ⟨t2, b2, rfl, he, hb⟩
      have g6 := hid (below_step g5.out g5.out.size hb)
      have hfin := er_later E1.out he HF.out
      clear hb he
      rcases hfin with rfl | ⟨rfl, rfl, hle⟩
      · go_wp2_with fail
        go_returns
        exact ⟨rfl, g6.out⟩
      · go_wp2_with fail
        go_returns
        exact ⟨by first | rfl | simp, g6.out⟩
end Go.Proofs.Ytadnbhjbaicjeaa
