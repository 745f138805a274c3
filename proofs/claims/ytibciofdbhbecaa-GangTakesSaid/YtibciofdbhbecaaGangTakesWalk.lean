/- The Go function GangTakes, called with any arguments, returns true and leaves all that was there. Condition: none. -/
import Derived.Test.YtibciofdbhbecaaGang27
import Derived.Test.YtibciofdbhbecaaRows
namespace Go.Proofs.Ytibciofdbhbecaa
open Go Go.ChangeShapes Go.WideShapes Go.RowKit
set_option maxRecDepth 100000 in
set_option maxHeartbeats 16000000 in
theorem gangTakes_walk {H : Type} {enc : TypeId × Value → H} (W : World) (base : Nat) (args : Array Value) (ds : List (DataW H))
    (hval : ∀ (j : Nat) t v, Try.f4.params[j]? = some t → args[j]? = some v → Value.okWide Try.prog W .any base t v)
    (hA : ∃ p, DataW.TrodAll enc Try.prog W 0 (fun _ => true) true Try.f4.params.toList args.toList ds p) 
    (_ : (DataW.weightsEach Try.prog (Try.f4.params.toList ++ (OpenSpec.ofChange Rows.gangTakesSpec).bare.plain.varTypes Try.prog) (ds ++ [])).all (· ≤ reachBytes) = true)
    (_ : laidMetH Try.prog Rows.gangTakesRow.laid W) (_ : W.ShapedOpen Try.prog) :
    Calls Try.prog 4 args W fun e W' => e = .returned (.bool true) ∧ Below W.heap.size W W' := by
  obtain ⟨p, hA⟩ := hA
  rw [Try.params4] at hA hval
  obtain ⟨v0, v1, v2, d0, d1, d2, p0, p1, p2, hargs, rfl, rfl, h0, h1, h2⟩ := trodAll_three hA
  subst hargs
  obtain ⟨A, cap, xs, rfl, hV, hxl, _⟩ := vecs_is (hval 0 22 v0 rfl rfl) h0
  obtain ⟨B, capB, ss, rfl, hS, hsl⟩ := acts_is (hval 1 23 v1 rfl rfl) h1
  obtain ⟨a, rfl, ha⟩ := act_is (hval 2 36 v2 rfl rfl) h2
  have HI := hid ha
  have KA := hid awake_any
  have KT := hid (fun w1 (hb : Below W.heap.size W w1) => taken_any W A B cap capB xs ss w1 hb hV hS hxl hsl)
  have X0 := hid (heap_new W (.cells #[.int .i64 a.k, .slice a.A a.xs.length a.cap, .int .i64 a.a, .int .i64 a.c, .int .i64 a.m, .int .i64 a.v.a, .int .i64 a.v.b, .int .i64 a.v.c, .int .i64 a.v.d] 36))
  have g0 := hid (show Below W.heap.size W (W.alloc (.cells #[.int .i64 a.k, .slice a.A a.xs.length a.cap, .int .i64 a.a, .int .i64 a.c, .int .i64 a.m, .int .i64 a.v.a, .int .i64 a.v.b, .int .i64 a.v.c, .int .i64 a.v.d] 36)) from by go_grown)
  clear h0 h1 h2 hval hA ha hV hS hxl hsl
  go_enter Try.func4, Try.ntmps4
  go_wp2_with fail
  refine (KA.out _).mono ?_
  rintro _ w1 ⟨rfl, hb⟩
  have X1 := hid (keep0 hb X0.out)
  have g1 := hid (below_step g0.out g0.out.size hb)
  clear hb KA
  go_wp2_with fail
  refine (KT.out _ g1.out).mono ?_
  rintro _ w2 ⟨hb, hpost⟩
  have X2 := hid (keep0 hb X1.out)
  have g2 := hid (below_step g1.out g1.out.size hb)
  have hW1 := g1.out.size
  clear hb KT
  obtain ⟨_, e1, e2, e3, e4, e5, e6, e7, e8⟩ := nine X2.out
  rcases hpost with rfl | ⟨q, sv, n, ps, Ws, fs, rfl, hp, hps⟩
  · go_wp2_with fail
    go_returns
    exact ⟨rfl, g2.out⟩
  have P2 := hid hp
  have HPS := hid (show ∀ i, i < n → W.heap.size ≤ ps i from fun i hi => Nat.le_trans hW1 (hps i hi))
  have HPX := hid (show ∀ i, i < n → W.heap.size < ps i from fun i hi => Nat.lt_of_lt_of_le (lt_of X1.out) (hps i hi))
  clear hp hps hW1
  by_cases hlen : 60 < a.xs.length
  · have hd : decide (60 < a.xs.length) = true := decide_eq_true hlen
    have hd' : (60 : Int) < (a.xs.length : Int) := by omega
    go_wp2_with fail
    go_returns
    exact ⟨rfl, g2.out⟩
  have hd : decide (60 < a.xs.length) = false := decide_eq_false hlen
  have hd' : (a.xs.length : Int) ≤ 60 := by omega
  have KF := hid (fun m k v w1 (hb : Below W.heap.size W w1) (h : PL w1 q sv n ps Ws fs) (hk : k ≤ 9223372036854775807) => find_all q sv n ps Ws fs a.A a.cap a.xs m k a.a v w1 h (HI.out.n.keep hb) HI.out.len hk HI.out.a.2)
  have hcx := HI.out.c.2
  have hax := HI.out.a.2
  have K1 := hid (KF.out a.m a.c a.v w2 g2.out P2.out hcx)
  go_wp2_with fail
  refine K1.out.mono ?_
  rintro _ w3 ⟨hb, ⟨t, v', rfl, ⟨hm1, hk1, hv, hF⟩, ho⟩ | ⟨rfl, _⟩⟩
  rotate_left
  · have g3 := hid (below_step g2.out g2.out.size hb)
    clear hb
    go_wp2_with fail
    go_returns
    exact ⟨rfl, g3.out⟩
  obtain ⟨l, hl⟩ : ∃ l, l = (openL n fs a.xs t (t + a.c) a.v).take a.m.toNat := ⟨_, rfl⟩
  have hlm : a.m.toNat = l.length := by
    rw [hl, List.length_take]
    have := hF.2.2.1
    omega
  have hl16 : l.length ≤ 16 := by
    rw [hl, List.length_take]
    have := openL_le n fs a.xs t (t + a.c) a.v
    omega
  have hl0 : l ≠ [] := by
    intro e
    rw [e] at hlm
    simp at hlm
    omega
  have HMem := hid (show ∀ i, i ∈ l → i < n ∧ (i : Int) ∈ a.xs ∧ opB (fs i) a.v t (t + a.c) = true from fun i hi => openL_mem (by rw [← hl]; exact hi))
  have HPair := hid (show l.Pairwise (· < ·) from by rw [hl]; exact openL_pair _ _ _ _ _ _ _)
  have HGang := hid (gang_of hl0 HPair.out fun i hi => (HMem.out i hi).1)
  have HLL := hid hl
  rw [← hl, hlm] at ho
  obtain ⟨bl, cl, rfl, hBl, hNl⟩ := Nl.of_row ho hl0
  have N3 := hid hNl
  have hblt : bl < w3.heap.size := by
    obtain ⟨cs, h1, _⟩ := hNl
    exact lt_of h1
  have hclc : l.length ≤ cl := by
    obtain ⟨_, _, _, h3, _⟩ := hNl
    exact h3
  have HFA := hid hF
  obtain ⟨f1, f2, _, _⟩ := hF
  have hlm' : (l.length : Int) = a.m := by omega
  have ha0 : 0 ≤ t := by omega
  have hat : a.a ≤ t := by omega
  have b1 : t + a.c ≤ 1099511627776 := by omega
  have b2 : t ≤ 1099511627776 := by omega
  have hsp : spanB t (t + a.c) = true := (spanB_iff t (t + a.c)).2 ⟨ha0, by omega, by omega⟩
  have X3 := hid (keep0 hb X2.out)
  have P3 := hid (P2.out.keep hb)
  have g3 := hid (below_step g2.out g2.out.size hb)
  clear hb
  clear ho hNl f1 f2 hl K1
  clear e1 e2 e3 e4 e5 e6 e7 e8
  obtain ⟨_, e1, e2, e3, e4, e5, e6, e7, e8⟩ := nine X3.out
  have hz0 : decide (t < 0) = false := decide_eq_false (by omega)
  have hza : decide (t < a.a) = false := decide_eq_false (by omega)
  have hlb : ((l.length : Int) == a.m) = true := by simp [hlm']
  have hlb2 : ((l.length : Int) != a.m) = false := by simp [hlm']
  obtain ⟨z, hz⟩ : ∃ z, z = l.length := ⟨_, rfl⟩
  rw [← hz] at hl16 hclc hlm' hlb hlb2 ⊢
  have HZ := hid hz
  clear hlm hz
  go_wp2_with fail
  go_loopw [12] (fun x wr => ∃ k : Nat, k ≤ z ∧ x = .int .i64 k ∧ Below w3.heap.size w3 wr) (fun x _ => z - (intOf x).toNat)
  case atStart => exact ⟨0, Nat.zero_le _, rfl, Below.refl _ _⟩
  case round =>
    clear e1 e2 e3 e4 e5 e6 e7 e8
    obtain ⟨k, hk, rfl, hg⟩ := hrel
    have HG := hid hg
    have XR := hid (keep0 hg X3.out)
    clear hg
    obtain ⟨_, e1, e2, e3, e4, e5, e6, e7, e8⟩ := nine XR.out
    by_cases hlt : k < z
    · have hlt' : (k : Int) < (z : Int) := by omega
      obtain ⟨x, hx⟩ : ∃ x, l[k]? = some x := ⟨_, List.getElem?_eq_getElem (by have := HZ.out; omega)⟩
      have HC := hid (show ∀ w1, Below w3.heap.size w3 w1 → ∀ (j : Nat) y, l[j]? = some y → w1.cell? ⟨bl, j, none⟩ = some (.int .i64 (y : Nat)) from fun w1 hb j y hy => by
        obtain ⟨cs, h1, _, _, _, h5⟩ := N3.out.keepB hb
        exact (cell_of h1 j).trans (h5 j y hy))
      have c0 := HC.out _ HG.out k x hx
      have hxc : a.xs.contains (x : Int) = true := by
        rw [List.contains_iff_mem]
        exact (HMem.out x (List.mem_of_getElem? hx)).2.1
      have KI := hid (show ∀ w1, Below w3.heap.size w3 w1 → Calls Try.prog 18 #[.slice a.A a.xs.length a.cap, .int .i64 (x : Nat)] w1 fun e w' => e = .returned (.bool true) ∧ w1 = w' from fun w1 hb => by
        have h0 := in_any a.A a.cap a.xs x w1 (HI.out.n.keep (g3.out.trans (hb.mono g3.out.size))) HI.out.len
        rw [hxc] at h0
        exact h0)
      have HX := hid hx
      clear hx hxc
      go_wp2_with fail
      go_region_held3 (fun w' => w'.cell? ⟨W.heap.size, 1, none⟩ = some (.slice a.A a.xs.length a.cap) ∧ w'.cell? ⟨bl, k, none⟩ = some (.int .i64 (x : Nat))) (first | exact ⟨e1, c0⟩ | go_keep) (first | (go_at_call 18; (with_reducible refine (KI.out _ (Below.drew HG.out)).mono ?_); rintro _ w5 ⟨rfl, rfl⟩))
      obtain ⟨w6, hw6⟩ : ∃ w6, w6 = wr.drew := ⟨_, rfl⟩
      rw [← hw6]
      have G6 := hid (show Below w3.heap.size w3 w6 from by rw [hw6]; exact Below.drew HG.out)
      have c0 := HC.out _ G6.out k x HX.out
      clear hw6 e1 e2 e3 e4 e5 e6 e7 e8
      rcases Nat.eq_zero_or_pos k with hk0 | hk0
      · have hkd : decide (0 < k) = false := decide_eq_false (by omega)
        have hkd' : decide ((0 : Int) < (k : Int)) = false := decide_eq_false (by omega)
        clear hk0
        go_wp2_with fail
        go_quiet (fail)
        all_goals go_wp2_with fail
        all_goals go_roundw
        case rel => exact ⟨k + 1, by omega, by go_num, quiet_below G6.out _⟩
        case measure => simp [intOf]; omega
      · obtain ⟨j, rfl⟩ : ∃ j, k = j + 1 := ⟨k - 1, by omega⟩
        obtain ⟨y, hy⟩ : ∃ y, l[j]? = some y := ⟨_, List.getElem?_eq_getElem (by have := HZ.out; omega)⟩
        have c1 := HC.out _ G6.out j y hy
        have hyx : y < x := by
          have h1 := List.getElem?_eq_some_iff.1 hy
          have h2 := List.getElem?_eq_some_iff.1 HX.out
          have := List.pairwise_iff_getElem.1 HPair.out j (j + 1) h1.1 h2.1 (by omega)
          rw [h1.2, h2.2] at this
          exact this
        have hxy' : decide ((x : Int) ≤ (y : Int)) = false := decide_eq_false (by omega)
        have hjd : decide ((0 : Int) < ((j + 1 : Nat) : Int)) = true := decide_eq_true (by omega)
        have hj1 : ((j + 1 : Nat) : Int) - 1 = (j : Int) := by omega
        have hjm : (j : Int) < (z : Int) := by omega
        clear hy hk0
        go_wp2_with fail
        go_quiet (fail)
        all_goals go_wp2_with fail
        all_goals go_roundw
        case rel => exact ⟨j + 1 + 1, by omega, by go_num, quiet_below G6.out _⟩
        case measure => simp [intOf]; omega
    · obtain rfl : k = z := by omega
      have P4 := hid (P3.out.keep HG.out)
      have G4 := hid (g3.out.trans (HG.out.mono g3.out.size))
      have N4 := hid (N3.out.keepB HG.out)
      have hw4 := HG.out.size
      obtain ⟨d, hd⟩ : ∃ d, l[0]? = some d := ⟨_, List.getElem?_eq_getElem (by have := HZ.out; cases l with | nil => exact absurd rfl hl0 | cons => simp)⟩
      have hdl := List.mem_of_getElem? hd
      have hdn := (HMem.out d hdl).1
      have HC := hid (show ∀ w1, Nl w1 bl cl l → w1.cell? ⟨bl, 0, none⟩ = some (.int .i64 (d : Nat)) from fun w1 hb => by
        obtain ⟨cs, h1, _, _, _, h5⟩ := hb
        exact (cell_of h1 0).trans (h5 0 d hd))
      have c0 := HC.out _ N4.out
      have KFr := hid (fun F w1 (hp : PL w1 q sv n ps Ws F) => gfree_any q sv n ps Ws F d t (t + a.c) w1 hp hdn)
      have HDL := hid hdl
      have hk1' : (0 : Int) < (k : Int) := by
        have := HZ.out
        cases l with
        | nil => exact absurd rfl hl0
        | cons => simp at this; omega
      have hk1n : 0 < k := by omega
      have HWR := hid (show IntKind.i64.wrap (t + a.c) = t + a.c from IntWalk.i64_in _ (by omega))
      have zb : bl < wr.heap.size := by omega
      have zW : W.heap.size < wr.heap.size := lt_of XR.out
      clear hd hdl hlm' hlb hlb2
      go_upto_region 18 with fail
      go_cut [14] (fun x wx => ∃ (g : Nat) (m1 : V4), x = .pointer (some ⟨g, 0, none⟩) ∧ wr.heap.size ≤ g ∧ MinOf (Ws d) ((fs) d) t (t + a.c) m1 ∧ Below wr.heap.size wr wx ∧ wx.heap[g]? = some (.cells #[.int .i64 m1.a, .int .i64 m1.b, .int .i64 m1.c, .int .i64 m1.d] 34 (0, 0)))
      case first =>
        have PA := hid (P4.out.keep ((Below.refl _ _).alloc (Nat.le_refl _) (.cells #[.int .i64 0, .int .i64 0, .int .i64 0, .int .i64 0] 34)))
        go_region_with (go_at_call 14; (try rw [HWR.out]); first | (refine Calls.mono (R := FreePost (World.drew wr) (Ws d) ((fs) d) t (t + a.c)) (KFr.out (fs) (World.drew wr) P4.out.D) ?_; rintro e w4 ⟨m, rfl, hm, hb⟩; have M := hid hm; have gg : Hid (Below wr.heap.size wr w4) := hid (unD hb); clear hb hm) | (refine Calls.mono (R := FreePost (World.drew (wr.alloc (.cells #[.int .i64 0, .int .i64 0, .int .i64 0, .int .i64 0] 34))) (Ws d) ((fs) d) t (t + a.c)) (KFr.out (fs) (World.drew (wr.alloc (.cells #[.int .i64 0, .int .i64 0, .int .i64 0, .int .i64 0] 34))) PA.out.D) ?_; rintro e w4 ⟨m, rfl, hm, hb⟩; have M := hid hm; have gg : Hid (Below wr.heap.size wr w4) := hid (belowA (unD hb)); have X4 := hid (newA (unD hb)); obtain ⟨cX0, cX1, cX2, cX3⟩ := four X4.out; obtain ⟨fX0, fX1, fX2, fX3⟩ := fourF X4.out; clear hb hm))
        all_goals
          go_wp2_with fail
          go_meet
          refine ⟨_, _, rfl, ?_, M.out, ?_, ?_⟩
          · first | (with_reducible exact gg.out.size) | (with_reducible exact Nat.le_refl _)
          · first | (with_reducible exact gg.out.alloc gg.out.size _) | (with_reducible exact four_below _ _ _ _ gg.out (Nat.le_refl _))
          · first | (with_reducible exact heap_new w4 _) | (with_reducible exact four_set _ _ _ _ X4.out)
      case rest =>
        obtain ⟨bg, m1, rfl, hbg, hm1, hb, hB⟩ := hcut
        have M1 := hid hm1
        have B5 := hid hB
        have P5 := hid (P4.out.keep hb)
        have N5 := hid (N4.out.keepB hb)
        have X5 := hid (keep0 hb XR.out)
        have g5 := hid (below_step G4.out G4.out.size hb)
        have hw5 := hb.size
        have hbgp := hid (show ∀ i, i < n → bg ≠ ps i from fun i hi => by
          have := (P4.out.p i hi).lt
          omega)
        have hblp := hid (show ∀ i, i < n → bl ≠ ps i from fun i hi => by
          have := (P2.out.p i hi).lt
          omega)
        have hbgl : bg < wc.heap.size := lt_of hB
        have hap : Apart (some ⟨bl, 0, none⟩) n ps := Apart.new P2.out hBl
        have KTk := hid (fun w1 (hp : PL w1 q sv n ps Ws fs) (hn : Nl w1 bl cl l) => take_found q sv n ps Ws fs (some ⟨bl, 0, none⟩) cl l t (t + a.c) a.v w1 hp hn.ns (by have := HZ.out; omega) hap HGang.out hsp hv (fun i hi => (HMem.out i hi).2.2))
        have KGv := hid (fun w1 (hp : PL w1 q sv n ps Ws (fsT fs (intL l) t (t + a.c) a.v (intL l).length)) (hn : Nl w1 bl cl l) => give_found q sv n ps Ws fs (some ⟨bl, 0, none⟩) cl l t (t + a.c) a.v w1 hp hn.ns (by have := HZ.out; omega) (by have := HZ.out; omega) hap HGang.out hsp hv (fun i hi => (P2.out.facts hi).1))
        have hEd := hid (fsT_mem (fs := fs) (xs := intL l) (a := t) (c := t + a.c) (v := a.v) (mem_intL.2 HDL.out))
        obtain ⟨fs', hfs'⟩ : ∃ fs', fs' = fsT fs (intL l) t (t + a.c) a.v (intL l).length := ⟨_, rfl⟩
        rw [← hfs', ← HZ.out] at KTk KGv
        rw [← hfs'] at hEd
        clear hfs' hm1 hb hB e1 e2 e3 e4 e5 e6 e7 e8 c0 HWR zb zW
        obtain ⟨_, e1, e2, e3, e4, e5, e6, e7, e8⟩ := nine X5.out
        go_wp2_with fail
        refine (KTk.out _ P5.out N5.out).mono ?_
        rintro _ w6 ⟨rfl, hp, hf⟩
        have P6 := hid hp
        have N6 := hid (N5.out.keep (hf.block bl (by omega) hblp.out))
        have X6 := hid ((hf.block _ (lt_of X5.out) (fun i hi => Nat.ne_of_lt (HPX.out i hi))).trans X5.out)
        have B6 := hid ((hf.block bg hbgl hbgp.out).trans B5.out)
        have g6 := hid (FrP.below g5.out hf HPS.out)
        have hw6 := hf.size
        clear hp hf e1 e2 e3 e4 e5 e6 e7 e8 KTk
        obtain ⟨_, e1, e2, e3, e4, e5, e6, e7, e8⟩ := nine X6.out
        have c0 := HC.out _ N6.out
        have HWR := hid (show IntKind.i64.wrap (t + a.c) = t + a.c from IntWalk.i64_in _ (by omega))
        have zb : bl < w6.heap.size := by omega
        have zW : W.heap.size < w6.heap.size := lt_of X6.out
        go_upto_region 20 with fail
        go_cut [16] (fun x wx => ∃ (g : Nat) (m1 : V4), x = .pointer (some ⟨g, 0, none⟩) ∧ w6.heap.size ≤ g ∧ MinOf (Ws d) ((fs') d) t (t + a.c) m1 ∧ Below w6.heap.size w6 wx ∧ wx.heap[g]? = some (.cells #[.int .i64 m1.a, .int .i64 m1.b, .int .i64 m1.c, .int .i64 m1.d] 34 (0, 0)))
        case first =>
          have PA := hid (P6.out.keep ((Below.refl _ _).alloc (Nat.le_refl _) (.cells #[.int .i64 0, .int .i64 0, .int .i64 0, .int .i64 0] 34)))
          go_region_with (go_at_call 14; (try rw [HWR.out]); first | (refine Calls.mono (R := FreePost (World.drew w6) (Ws d) ((fs') d) t (t + a.c)) (KFr.out (fs') (World.drew w6) P6.out.D) ?_; rintro e w4 ⟨m, rfl, hm, hb⟩; have M := hid hm; have gh : Hid (Below w6.heap.size w6 w4) := hid (unD hb); clear hb hm) | (refine Calls.mono (R := FreePost (World.drew (w6.alloc (.cells #[.int .i64 0, .int .i64 0, .int .i64 0, .int .i64 0] 34))) (Ws d) ((fs') d) t (t + a.c)) (KFr.out (fs') (World.drew (w6.alloc (.cells #[.int .i64 0, .int .i64 0, .int .i64 0, .int .i64 0] 34))) PA.out.D) ?_; rintro e w4 ⟨m, rfl, hm, hb⟩; have M := hid hm; have gh : Hid (Below w6.heap.size w6 w4) := hid (belowA (unD hb)); have X4 := hid (newA (unD hb)); obtain ⟨cX0, cX1, cX2, cX3⟩ := four X4.out; obtain ⟨fX0, fX1, fX2, fX3⟩ := fourF X4.out; clear hb hm))
          all_goals
            go_wp2_with fail
            go_meet
            refine ⟨_, _, rfl, ?_, M.out, ?_, ?_⟩
            · first | (with_reducible exact gh.out.size) | (with_reducible exact Nat.le_refl _)
            · first | (with_reducible exact gh.out.alloc gh.out.size _) | (with_reducible exact four_below _ _ _ _ gh.out (Nat.le_refl _))
            · first | (with_reducible exact heap_new w4 _) | (with_reducible exact four_set _ _ _ _ X4.out)
        case rest =>
          obtain ⟨bh, m3, rfl, hbh, hm3, hb, hB⟩ := hcut
          have hfc := P2.out.facts hdn
          rw [hEd.out] at hm3
          have hvok := (V4.okB_iff _).1 hv
          have em := M1.out.sub hm3 hfc.1 hvok ha0 (by omega) b1
          have hf3 : ∀ u, (chF (fs d) t (t + a.c) (fun x => x.sub a.v) u).ok := by
            have := (P6.out.facts hdn).2.1
            rw [hEd.out] at this
            exact this
          have hr0 := hm3.nonneg hfc.2.2 hf3
          have hr1 := hm3.upper hfc.2.2
          have hm1r := m_rng (M1.out.nonneg hfc.2.2 hfc.2.1) (M1.out.upper hfc.2.2)
          have HQ := hid (show ∀ i, m3.m i = m1.m i - a.v.m i ∧ 0 ≤ m3.m i ∧ m3.m i ≤ 1073741824 ∧ 0 ≤ m1.m i ∧ m1.m i ≤ 1073741824 from fun i => ⟨by rw [em, m_sub], (m_rng hr0 hr1 i).1, (m_rng hr0 hr1 i).2, (hm1r i).1, (hm1r i).2⟩)
          have P7 := hid (P6.out.keep hb)
          have N7 := hid (N6.out.keepB hb)
          have X7 := hid (keep0 hb X6.out)
          have B7 := hid (keep0 hb B6.out)
          have D7 := hid hB
          have g7 := hid (below_step g6.out g6.out.size hb)
          clear hm3 em hr0 hr1 hm1r hb hB hfc hf3 hvok e1 e2 e3 e4 e5 e6 e7 e8 c0 HWR zb zW
          have hk4 : (k : Int) ≤ 16 := by omega
          go_wp2_with fail
          go_loopw [17] (fun x wr => ∃ (j qq : Nat), j ≤ 4 ∧ x = .int .i64 j ∧ wr = wc.drewN qq) (fun x _ => 4 - (intOf x).toNat)
          case atStart => exact ⟨0, 0, by omega, rfl, rfl⟩
          case round =>
            obtain ⟨j, qq, hj, rfl, rfl⟩ := hrel
            by_cases h4 : j < 4
            · have h4' : (j : Int) < 4 := by omega
              obtain ⟨e1, e2, e3, e4, e5⟩ := HQ.out j
              have cD : wc.cell? ⟨bh, j, none⟩ = some (.int .i64 (m3.m j)) := (cell_of D7.out j).trans (m_at m3 j h4)
              have cB : wc.cell? ⟨bg, j, none⟩ = some (.int .i64 (m1.m j)) := (cell_of B7.out j).trans (m_at m1 j h4)
              have cY : wc.cell? ⟨W.heap.size, 5 + j, none⟩ = some (.int .i64 (a.v.m j)) := (cell_of X7.out (5 + j)).trans (act5_at _ _ _ _ _ a.v j h4)
              generalize m3.m j = u3 at *
              generalize m1.m j = u1 at *
              generalize a.v.m j = uv at *
              have hw : IntKind.i64.wrap (u1 - uv) = u3 := by first | (rw [e1]; exact IntWalk.i64_in _ (by omega)) | (subst e1; exact IntWalk.i64_in _ (by omega))
              have hbq : (u3 == u3) = true := by simp
              have hbn : (u3 != u3) = false := by simp
              obtain ⟨w8, hw8⟩ : ∃ w8, w8 = wc := ⟨_, rfl⟩
              rw [← hw8] at cD cB cY ⊢
              have hw8' := hid hw8
              clear hw8 e1
              go_wp2_with fail
              go_quiet (fail)
              all_goals go_wp2_with fail
              all_goals go_roundw
              case rel => exact ⟨j + 1, qq + nq, by omega, by go_num, by rw [hw8'.out]⟩
              case measure => simp [intOf]; omega
            · obtain rfl : j = 4 := by omega
              obtain ⟨w9, hw9⟩ : ∃ w9, w9 = wc.drewN qq := ⟨_, rfl⟩
              have P9 := hid (show PL w9 q sv n ps Ws fs' from by rw [hw9]; exact P7.out.keep (dN (Below.refl _ _) qq))
              have N9 := hid (show Nl w9 bl cl l from by rw [hw9]; exact N7.out.keepB (dN (Below.refl _ _) qq))
              have X9 := hid (show w9.heap[W.heap.size]? = some (.cells #[.int .i64 a.k, .slice a.A a.xs.length a.cap, .int .i64 a.a, .int .i64 a.c, .int .i64 a.m, .int .i64 a.v.a, .int .i64 a.v.b, .int .i64 a.v.c, .int .i64 a.v.d] 36 (0, 0)) from by rw [hw9]; exact X7.out)
              have g9 := hid (show Below W.heap.size W w9 from by rw [hw9]; exact dN g7.out qq)
              have hz9 : bl < w9.heap.size := by
                obtain ⟨cs, h1, _⟩ := N9.out
                exact lt_of h1
              rw [← hw9]
              clear hw9 P7 N7 X7 g7 B7 D7 HQ
              obtain ⟨_, e1, e2, e3, e4, e5, e6, e7, e8⟩ := nine X9.out
              go_wp2_with fail
              refine (KGv.out _ P9.out N9.out).mono ?_
              rintro _ w10 ⟨rfl, hp, hf⟩
              have P10 := hid hp
              have N10 := hid (N9.out.keep (hf.block bl hz9 hblp.out))
              have X10 := hid ((hf.block _ (lt_of X9.out) (fun i hi => Nat.ne_of_lt (HPX.out i hi))).trans X9.out)
              have g10 := hid (FrP.below g9.out hf HPS.out)
              clear hp hf e1 e2 e3 e4 e5 e6 e7 e8 KGv
              obtain ⟨_, e1, e2, e3, e4, e5, e6, e7, e8⟩ := nine X10.out
              have KFn := hid (KF.out a.m a.c a.v w10 g10.out P10.out hcx)
              go_wp2_with fail
              refine KFn.out.mono ?_
              rintro _ w11 ⟨hb, ⟨t', v', rfl, ⟨_, _, _, hF'⟩, ho⟩ | ⟨_, hno⟩⟩
              rotate_left
              · exact absurd ⟨hm1, hk1, hv, HFA.out⟩ (hno t)
              obtain rfl : t' = t := hF'.uniq HFA.out
              have hmz : a.m.toNat = l.length := by
                have := congrArg List.length HLL.out
                rw [List.length_take] at this
                have := hF'.2.2.1
                omega
              rw [← HLL.out, hmz] at ho
              obtain ⟨b2, c2, rfl, _, hN2⟩ := Nl.of_row ho hl0
              have N11 := hid (N10.out.keepB hb)
              have g11 := hid (below_step g10.out g10.out.size hb)
              have KSm : Hid (Calls Try.prog 21 #[.slice (some ⟨bl, 0, none⟩) k cl, .slice (some ⟨b2, 0, none⟩) k c2] w11 fun e w' => e = .returned (.bool true) ∧ Below w11.heap.size w11 w') := hid (by
                have h0 := same_ints (some ⟨bl, 0, none⟩) (some ⟨b2, 0, none⟩) cl c2 (intL l) w11 N11.out.ns hN2.ns (by rw [intL_len]; have := HZ.out; omega)
                rw [intL_len, ← HZ.out] at h0
                exact h0)
              have hbt : (t' == t') = true := by simp
              rw [← HZ.out]
              clear ho hb hN2 hF' hmz e1 e2 e3 e4 e5 e6 e7 e8
              go_wp2_with (go_at_call 21; (with_reducible refine KSm.out.mono ?_); rintro _ w12 ⟨rfl, hb⟩; have g12 := hid (below_step g11.out g11.out.size hb); clear hb)
              go_returns
              exact ⟨rfl, g12.out⟩
end Go.Proofs.Ytibciofdbhbecaa
