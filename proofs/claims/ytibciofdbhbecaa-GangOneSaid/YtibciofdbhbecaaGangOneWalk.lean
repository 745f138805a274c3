/- The Go function GangOne, called with any arguments, returns true and leaves all that was there. Condition: none. -/
import Derived.Test.YtibciofdbhbecaaGang28
import Derived.Test.YtibciofdbhbecaaRows
namespace Go.Proofs.Ytibciofdbhbecaa
open Go Go.ChangeShapes Go.WideShapes Go.RowKit
set_option maxRecDepth 100000 in
set_option maxHeartbeats 4000000 in
theorem gangOne_walk {H : Type} {enc : TypeId × Value → H} (W : World) (base : Nat) (args : Array Value) (ds : List (DataW H))
    (hval : ∀ (j : Nat) t v, Try.f6.params[j]? = some t → args[j]? = some v → Value.okWide Try.prog W .any base t v)
    (hA : ∃ p, DataW.TrodAll enc Try.prog W 0 (fun _ => true) true Try.f6.params.toList args.toList ds p) 
    (_ : (DataW.weightsEach Try.prog (Try.f6.params.toList ++ (OpenSpec.ofChange Rows.gangOneSpec).bare.plain.varTypes Try.prog) (ds ++ [])).all (· ≤ reachBytes) = true)
    (_ : laidMetH Try.prog Rows.gangOneRow.laid W) (_ : W.ShapedOpen Try.prog) :
    Calls Try.prog 6 args W fun e W' => e = .returned (.bool true) ∧ Below W.heap.size W W' := by
  obtain ⟨p, hA⟩ := hA
  rw [Try.params6] at hA hval
  obtain ⟨v0, v1, v2, d0, d1, d2, p0, p1, p2, hargs, rfl, rfl, h0, h1, h2⟩ := trodAll_three hA
  subst hargs
  obtain ⟨h, rfl, _⟩ := vec_is (hval 0 34 v0 rfl rfl) h0
  obtain ⟨B, capB, ss, rfl, hS, hsl⟩ := acts_is (hval 1 23 v1 rfl rfl) h1
  obtain ⟨a, rfl, ha⟩ := act_is (hval 2 36 v2 rfl rfl) h2
  have hax := ha.a.2
  have hcx := ha.c.2
  have KA := hid awake_any
  have HA : Hid (∀ w1, Below W.heap.size W w1 → Acts W w1 B ss) := hid fun w1 hb => hS.keep hb
  have X0 := hid (show ((W.alloc (.cells #[.int .i64 h.a, .int .i64 h.b, .int .i64 h.c, .int .i64 h.d] 34)).alloc (.cells #[.int .i64 a.k, .slice a.A a.xs.length a.cap, .int .i64 a.a, .int .i64 a.c, .int .i64 a.m, .int .i64 a.v.a, .int .i64 a.v.b, .int .i64 a.v.c, .int .i64 a.v.d] 36)).heap[W.heap.size]? = some (.cells #[.int .i64 h.a, .int .i64 h.b, .int .i64 h.c, .int .i64 h.d] 34 (0, 0)) from heapA (heap_new W _))
  have Y0 := hid (show ((W.alloc (.cells #[.int .i64 h.a, .int .i64 h.b, .int .i64 h.c, .int .i64 h.d] 34)).alloc (.cells #[.int .i64 a.k, .slice a.A a.xs.length a.cap, .int .i64 a.a, .int .i64 a.c, .int .i64 a.m, .int .i64 a.v.a, .int .i64 a.v.b, .int .i64 a.v.c, .int .i64 a.v.d] 36)).heap[W.heap.size + 1]? = some (.cells #[.int .i64 a.k, .slice a.A a.xs.length a.cap, .int .i64 a.a, .int .i64 a.c, .int .i64 a.m, .int .i64 a.v.a, .int .i64 a.v.b, .int .i64 a.v.c, .int .i64 a.v.d] 36 (0, 0)) from by simpa using heap_new (W.alloc (.cells #[.int .i64 h.a, .int .i64 h.b, .int .i64 h.c, .int .i64 h.d] 34)) (.cells #[.int .i64 a.k, .slice a.A a.xs.length a.cap, .int .i64 a.a, .int .i64 a.c, .int .i64 a.m, .int .i64 a.v.a, .int .i64 a.v.b, .int .i64 a.v.c, .int .i64 a.v.d] 36))
  have g0 := hid (show Below W.heap.size W ((W.alloc (.cells #[.int .i64 h.a, .int .i64 h.b, .int .i64 h.c, .int .i64 h.d] 34)).alloc (.cells #[.int .i64 a.k, .slice a.A a.xs.length a.cap, .int .i64 a.a, .int .i64 a.c, .int .i64 a.m, .int .i64 a.v.a, .int .i64 a.v.b, .int .i64 a.v.c, .int .i64 a.v.d] 36)) from by go_grown)
  obtain ⟨n, hn⟩ : ∃ n, n = ss.length := ⟨_, rfl⟩
  rw [← hn] at hsl ⊢
  have HN := hid hn
  have K3n := hid (new_three h)
  clear h0 h1 h2 hval hA ha hS hn
  cases hW : h.okB with
  | false =>
    have KN := hid (new_no h hW)
    have HW := hid hW
    clear hW HA
    go_enter Try.func6, Try.ntmps6
    go_wp2_with fail
    refine (KA.out _).mono ?_
    rintro _ w1 ⟨rfl, hb⟩
    have X1 := hid (keep0 hb X0.out)
    have g1 := hid (below_step g0.out g0.out.size hb)
    clear hb KA
    obtain ⟨x0, x1, x2, x3⟩ := four X1.out
    go_wp2_with fail
    refine (KN.out _).mono ?_
    rintro _ w2 ⟨rfl, hb⟩
    have X2 := hid (keep0 hb X1.out)
    have g2 := hid (below_step g1.out g1.out.size hb)
    clear hb KN x0 x1 x2 x3
    obtain ⟨x0, x1, x2, x3⟩ := four X2.out
    go_wp2_with fail
    refine (K3n.out _ _ _ (heap_new w2 _)).mono ?_
    rintro _ w3 ⟨hb, ⟨rfl, _⟩ | ⟨q, sv, ps, rfl, hok, _⟩⟩
    · have g3 := hid (show Below W.heap.size W w3 from (g2.out.alloc g2.out.size _).trans (hb.mono (by have := g2.out.size; simp; omega)))
      clear hb K3n
      go_wp2_with fail
      go_returns
      exact ⟨rfl, g3.out⟩
    · have := hok h (by simp)
      rw [HW.out] at this
      cases this
  | true =>
    have KN := hid (new_pr h hW)
    have HW := hid hW
    clear hW
    go_enter Try.func6, Try.ntmps6
    go_wp2_with fail
    refine (KA.out _).mono ?_
    rintro _ w1 ⟨rfl, hb⟩
    have X1 := hid (keep0 hb X0.out)
    have Y1 := hid (keep0 hb Y0.out)
    have g1 := hid (below_step g0.out g0.out.size hb)
    clear hb KA
    obtain ⟨x0, x1, x2, x3⟩ := four X1.out
    go_wp2_with fail
    refine (KN.out _).mono ?_
    rintro _ w2 ⟨pr, rfl, hp, hpl, hb⟩
    have X2 := hid (keep0 hb X1.out)
    have Y2 := hid (keep0 hb Y1.out)
    have P2 := hid hp
    have hprY : W.heap.size + 1 < pr := Nat.lt_of_lt_of_le (lt_of Y1.out) hpl
    have hpr2 := hp.lt
    have g2 := hid (below_step g1.out g1.out.size hb)
    clear hb KN x0 x1 x2 x3 hp hpl
    obtain ⟨x0, x1, x2, x3⟩ := four X2.out
    go_wp2_with fail
    refine (K3n.out _ _ _ (heap_new w2 _)).mono ?_
    rintro _ w3 ⟨hb, ⟨_, hbad⟩ | ⟨q, sv, ps, rfl, _, hp, _, hps⟩⟩
    · exfalso
      rcases hbad with hbad | ⟨x, hx, hbad⟩
      · simp at hbad
      · have : x = h := by simpa using hx
        rw [this, HW.out] at hbad
        cases hbad
    · have hba := (show Below w2.heap.size w2 w3 from ((Below.refl _ _).alloc (Nat.le_refl _) _).trans (hb.mono (by simp)))
      have P3 := hid (P2.out.keep hba)
      have Y3 := hid (keep0 hba Y2.out)
      have g3 := hid (below_step g2.out g2.out.size hba)
      have HPS := hid (show ∀ i, i < 3 → pr < ps i from fun i hi => by
        have := hps i hi
        simp at this
        omega)
      obtain ⟨Ws, hWs⟩ : ∃ Ws : Nat → V4, Ws = fun i => [h, h, h].getD i V4.z := ⟨_, rfl⟩
      obtain ⟨fs0, hfs0⟩ : ∃ fs0 : Nat → Int → V4, fs0 = fun i _ => [h, h, h].getD i V4.z := ⟨_, rfl⟩
      have L3 : Hid (PL w3 q sv 3 ps Ws fs0) := hid (by rw [hWs, hfs0]; exact hp)
      have F3 := hid (show ∀ i, i < 3 → fs0 i = fun _ => h from fun i hi => by
        rw [hfs0]
        have : i = 0 ∨ i = 1 ∨ i = 2 := by omega
        rcases this with rfl | rfl | rfl <;> rfl)
      clear hp hps hb hba x0 x1 x2 x3 hWs hfs0 X0 X1 X2 Y0 Y1 Y2 g0 g1 g2 P2 K3n
      go_wp2_with fail
      go_loopw [10] (fun x wr => ∃ (k : Nat) (f : Int → V4) (fs : Nat → Int → V4), k ≤ n ∧ x = .int .i64 k ∧ Pr wr pr h f ∧ PL wr q sv 3 ps Ws fs ∧ (∀ i, i < 3 → fs i = f) ∧ Below W.heap.size W wr ∧ wr.heap[W.heap.size + 1]? = some (.cells #[.int .i64 a.k, .slice a.A a.xs.length a.cap, .int .i64 a.a, .int .i64 a.c, .int .i64 a.m, .int .i64 a.v.a, .int .i64 a.v.b, .int .i64 a.v.c, .int .i64 a.v.d] 36 (0, 0))) (fun x _ => n - (intOf x).toNat)
      case atStart => exact ⟨0, _, _, Nat.zero_le _, rfl, P3.out, L3.out, F3.out, g3.out, Y3.out⟩
      case round =>
        clear P3 L3 F3 g3 Y3
        obtain ⟨k, f, fs, hk, rfl, hp, hl, hfs, hg, hy⟩ := hrel
        have HP := hid hp
        have HL := hid hl
        have HFS := hid hfs
        have HG := hid hg
        have HY := hid hy
        clear hp hl hfs hg hy
        by_cases hlt : k < n
        · have hlt' : (k : Int) < (n : Int) := by omega
          by_cases h20 : k < 20
          · have h20' : (k : Int) < 20 := by omega
            obtain ⟨x, hx1⟩ : ∃ x, ss[k]? = some x := ⟨_, List.getElem?_eq_getElem (by have := HN.out; omega)⟩
            obtain ⟨_, b, off, rfl, hbl, c0, c1, c2, c3, c4, c5, c6, c7, c8⟩ := (HA.out _ HG.out).at hx1
            clear hx1
            have ba := hid (show Below wr.heap.size wr (wr.alloc (.cells #[.int .i64 x.k, .slice x.A x.xs.length x.cap, .int .i64 x.a, .int .i64 x.c, .int .i64 x.m, .int .i64 x.v.a, .int .i64 x.v.b, .int .i64 x.v.c, .int .i64 x.v.d] 36)) from (Below.refl _ _).alloc (Nat.le_refl _) _)
            have S4 := hid (heap_new wr (.cells #[.int .i64 x.k, .slice x.A x.xs.length x.cap, .int .i64 x.a, .int .i64 x.c, .int .i64 x.m, .int .i64 x.v.a, .int .i64 x.v.b, .int .i64 x.v.c, .int .i64 x.v.d] 36))
            have P4 := hid (HP.out.keep ba.out)
            have L4 := hid (HL.out.keep ba.out)
            have Y4 := hid (keep0 ba.out HY.out)
            have g4 := hid (below_step HG.out HG.out.size ba.out)
            have K1 := hid (take_one pr h f x.a x.c x.v _ P4.out)
            have hprr := HP.out.lt
            obtain ⟨_, s1, s2, s3, s4, s5, s6, s7, s8⟩ := nine S4.out
            go_wp2_with fail
            refine K1.out.mono ?_
            rintro _ w5 ⟨rfl, hp, hb⟩
            have P5 := hid hp
            have L5 := hid (L4.out.other P4.out (fun i hi => Nat.ne_of_gt (HPS.out i hi)) hb)
            have S5 := hid (gb_keep hb S4.out (by simp; omega))
            have Y5 := hid (gb_keep hb Y4.out (by simp; omega))
            have g5 := hid (show Below W.heap.size W w5 from ⟨hb.os.trans g4.out.os, hb.tape.trans g4.out.tape, hb.output.trans g4.out.output, Nat.le_trans g4.out.size hb.size, fun i hi => (hb.block i (Nat.lt_of_lt_of_le hi g4.out.size) (fun e => by cases e; omega)).trans (g4.out.block i hi)⟩)
            have K3 := hid (take_three q sv ps Ws fs f x.a x.c x.v w5 L5.out HFS.out)
            clear hp hb K1 s1 s2 s3 s4 s5 s6 s7 s8
            obtain ⟨_, s1, s2, s3, s4, s5, s6, s7, s8⟩ := nine (heapA (o := .cells #[.int .i64 0, .int .i64 1, .int .i64 2] 3) S5.out)
            go_wp2_with fail
            refine K3.out.mono ?_
            rintro _ w6 ⟨rfl, ⟨fs', hl, hf6⟩, hf⟩
            have L6 := hid hl
            have F6 := hid hf6
            have P6 := hid (P5.out.fr (fun i hi => Nat.ne_of_lt (HPS.out i hi)) (fun i hi => (L5.out.p i hi).type) hf)
            have Y6 := hid ((hf.block _ (lt_of Y5.out) (fun i hi e => by have := HPS.out i hi; omega)).trans Y5.out)
            have g6 := hid (FrP.below g5.out hf (fun i hi => by have := HPS.out i hi; omega))
            clear hl hf6 hf K3 s1 s2 s3 s4 s5 s6 s7 s8
            generalize tkE f x.a x.c x.v = E at *
            have hbn : (E != E) = false := by simp
            have hbq : (E == E) = true := by simp
            go_wp2_with fail
            all_goals go_roundw
            case rel => exact ⟨k + 1, _, fs', by omega, by go_num, P6.out, L6.out, F6.out, g6.out, Y6.out⟩
            case measure => simp [intOf]; omega
          · have h20' : decide ((k : Int) < 20) = false := by simp; omega
            have KE := hid (earl_one pr h f a.a a.c a.v wr HP.out hax)
            have KS6 := hid (fun w1 (hp : PL w1 q sv 3 ps Ws fs) => find_six q sv ps Ws fs f a.a a.c a.v w1 hp HFS.out hcx hax)
            have KS1 := hid (fun w1 (hp : PL w1 q sv 3 ps Ws fs) => find_sole q sv ps Ws fs f a.a a.c a.v w1 hp HFS.out hcx hax)
            obtain ⟨o, ho⟩ : ∃ o, o = oE f a.v a.a a.c := ⟨_, rfl⟩
            rw [← ho] at KE KS6 KS1
            clear ho
            obtain ⟨_, e1, e2, e3, e4, e5, e6, e7, e8⟩ := nine HY.out
            go_wp2_with fail
            refine KE.out.mono ?_
            rintro _ w5 ⟨rfl, hb⟩
            have L5 := hid (HL.out.keep hb)
            have Y5 := hid (keep0 hb HY.out)
            have g5 := hid (below_step HG.out HG.out.size hb)
            clear hb KE e1 e2 e3 e4 e5 e6 e7 e8
            obtain ⟨_, e1, e2, e3, e4, e5, e6, e7, e8⟩ := nine (heapA (o := .cells #[.int .i64 2, .int .i64 0, .int .i64 1, .int .i64 0, .int .i64 7, .int .i64 (-1)] 3) Y5.out)
            have K6 := hid (KS6.out _ L5.out)
            go_wp2_with fail
            refine K6.out.mono ?_
            rintro _ w6 ⟨hb, ⟨t, b6, c6, rfl, rfl, x6⟩ | ⟨rfl, rfl⟩⟩
            · have L6 := hid (L5.out.keep hb)
              have Y6 := hid (keep0 hb Y5.out)
              have g6 := hid (below_step g5.out g5.out.size hb)
              clear hb K6 e1 e2 e3 e4 e5 e6 e7 e8 x6
              obtain ⟨_, e1, e2, e3, e4, e5, e6, e7, e8⟩ := nine (heapA (o := .cells #[.int .i64 2] 3) Y6.out)
              have K7 := hid (KS1.out _ L6.out)
              rw [show eT (some t) = t from rfl]
              have htt : (t == t) = true := by simp
              have htn : (t != t) = false := by simp
              go_wp2_with fail
              refine K7.out.mono ?_
              rintro _ w7 ⟨hb, ⟨t', b7, c7, ht', rfl, x7⟩ | ⟨ht', _⟩⟩
              · cases ht'
                have g7 := hid (below_step g6.out g6.out.size hb)
                clear hb K7 e1 e2 e3 e4 e5 e6 e7 e8
                go_wp2_with fail
                go_returns
                exact ⟨rfl, g7.out⟩
              · cases ht'
            · have L6 := hid (L5.out.keep hb)
              have Y6 := hid (keep0 hb Y5.out)
              have g6 := hid (below_step g5.out g5.out.size hb)
              clear hb K6 e1 e2 e3 e4 e5 e6 e7 e8
              obtain ⟨_, e1, e2, e3, e4, e5, e6, e7, e8⟩ := nine (heapA (o := .cells #[.int .i64 2] 3) Y6.out)
              have K7 := hid (KS1.out _ L6.out)
              rw [show eT (none : Option Int) = 0 from rfl]
              go_wp2_with fail
              refine K7.out.mono ?_
              rintro _ w7 ⟨hb, ⟨t', b7, c7, ht', _⟩ | ⟨_, rfl⟩⟩
              · cases ht'
              · have g7 := hid (below_step g6.out g6.out.size hb)
                clear hb K7 e1 e2 e3 e4 e5 e6 e7 e8
                go_wp2_with fail
                go_returns
                exact ⟨rfl, g7.out⟩
        · obtain rfl : k = n := by omega
          have KE := hid (earl_one pr h f a.a a.c a.v wr HP.out hax)
          have KS6 := hid (fun w1 (hp : PL w1 q sv 3 ps Ws fs) => find_six q sv ps Ws fs f a.a a.c a.v w1 hp HFS.out hcx hax)
          have KS1 := hid (fun w1 (hp : PL w1 q sv 3 ps Ws fs) => find_sole q sv ps Ws fs f a.a a.c a.v w1 hp HFS.out hcx hax)
          obtain ⟨o, ho⟩ : ∃ o, o = oE f a.v a.a a.c := ⟨_, rfl⟩
          rw [← ho] at KE KS6 KS1
          clear ho
          obtain ⟨_, e1, e2, e3, e4, e5, e6, e7, e8⟩ := nine HY.out
          go_wp2_with fail
          refine KE.out.mono ?_
          rintro _ w5 ⟨rfl, hb⟩
          have L5 := hid (HL.out.keep hb)
          have Y5 := hid (keep0 hb HY.out)
          have g5 := hid (below_step HG.out HG.out.size hb)
          clear hb KE e1 e2 e3 e4 e5 e6 e7 e8
          obtain ⟨_, e1, e2, e3, e4, e5, e6, e7, e8⟩ := nine (heapA (o := .cells #[.int .i64 2, .int .i64 0, .int .i64 1, .int .i64 0, .int .i64 7, .int .i64 (-1)] 3) Y5.out)
          have K6 := hid (KS6.out _ L5.out)
          go_wp2_with fail
          refine K6.out.mono ?_
          rintro _ w6 ⟨hb, ⟨t, b6, c6, rfl, rfl, x6⟩ | ⟨rfl, rfl⟩⟩
          · have L6 := hid (L5.out.keep hb)
            have Y6 := hid (keep0 hb Y5.out)
            have g6 := hid (below_step g5.out g5.out.size hb)
            clear hb K6 e1 e2 e3 e4 e5 e6 e7 e8 x6
            obtain ⟨_, e1, e2, e3, e4, e5, e6, e7, e8⟩ := nine (heapA (o := .cells #[.int .i64 2] 3) Y6.out)
            have K7 := hid (KS1.out _ L6.out)
            rw [show eT (some t) = t from rfl]
            have htt : (t == t) = true := by simp
            have htn : (t != t) = false := by simp
            go_wp2_with fail
            refine K7.out.mono ?_
            rintro _ w7 ⟨hb, ⟨t', b7, c7, ht', rfl, x7⟩ | ⟨ht', _⟩⟩
            · cases ht'
              have g7 := hid (below_step g6.out g6.out.size hb)
              clear hb K7 e1 e2 e3 e4 e5 e6 e7 e8
              go_wp2_with fail
              go_returns
              exact ⟨rfl, g7.out⟩
            · cases ht'
          · have L6 := hid (L5.out.keep hb)
            have Y6 := hid (keep0 hb Y5.out)
            have g6 := hid (below_step g5.out g5.out.size hb)
            clear hb K6 e1 e2 e3 e4 e5 e6 e7 e8
            obtain ⟨_, e1, e2, e3, e4, e5, e6, e7, e8⟩ := nine (heapA (o := .cells #[.int .i64 2] 3) Y6.out)
            have K7 := hid (KS1.out _ L6.out)
            rw [show eT (none : Option Int) = 0 from rfl]
            go_wp2_with fail
            refine K7.out.mono ?_
            rintro _ w7 ⟨hb, ⟨t', b7, c7, ht', _⟩ | ⟨_, rfl⟩⟩
            · cases ht'
            · have g7 := hid (below_step g6.out g6.out.size hb)
              clear hb K7 e1 e2 e3 e4 e5 e6 e7 e8
              go_wp2_with fail
              go_returns
              exact ⟨rfl, g7.out⟩
end Go.Proofs.Ytibciofdbhbecaa
