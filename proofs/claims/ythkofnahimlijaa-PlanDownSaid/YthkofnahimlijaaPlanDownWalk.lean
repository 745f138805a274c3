/- The Go function PlanDown, called with any arguments, returns true and leaves all that was there. Condition: none. -/
import Derived.Test.YthkofnahimlijaaPlanC
import Derived.Test.YthkofnahimlijaaRows
namespace Go.Proofs.Ythkofnahimlijaa
open Go Go.ChangeShapes Go.WideShapes Go.RowKit
set_option maxRecDepth 100000 in
set_option maxHeartbeats 4000000 in
theorem planDown_walk {H : Type} {enc : TypeId × Value → H} (W : World) (base : Nat) (args : Array Value) (ds : List (DataW H))
    (hval : ∀ (j : Nat) t v, Try.f7.params[j]? = some t → args[j]? = some v → Value.okWide Try.prog W .any base t v)
    (hA : ∃ p, DataW.TrodAll enc Try.prog W 0 (fun _ => true) true Try.f7.params.toList args.toList ds p) 
    (_ : (DataW.weightsEach Try.prog (Try.f7.params.toList ++ (OpenSpec.ofChange Rows.planDownSpec).bare.plain.varTypes Try.prog) (ds ++ [])).all (· ≤ reachBytes) = true)
    (_ : laidMetH Try.prog Rows.planDownRow.laid W) (_ : W.ShapedOpen Try.prog) :
    Calls Try.prog 7 args W fun e W' => e = .returned (.bool true) ∧ Below W.heap.size W W' := by
  obtain ⟨p, hA⟩ := hA
  rw [Try.params7] at hA hval
  obtain ⟨v0, v1, d0, d1, p0, p1, hargs, rfl, rfl, h0, h1⟩ := trodAll_two hA
  subst hargs
  obtain ⟨s, rfl, hs⟩ := scene_is (hval 0 27 v0 rfl rfl) h0
  obtain ⟨a, rfl, ha⟩ := ask_is (hval 1 42 v1 rfl rfl) h1
  have HS := hid hs
  have HI := hid ha
  have KA := hid awake_any
  have X0 := hid (heapA (o := (.cells #[.int .i64 a.id, .slice a.A a.pl.length a.cap, .int .i64 a.m, .int .i64 a.v.a, .int .i64 a.v.b, .int .i64 a.v.c, .int .i64 a.v.d, .int .i64 a.k, .int .i64 a.s, .slice a.G a.g.length a.gc] 42)) (heap_new W (.cells #[.slice s.A s.xs.length s.cap, .slice s.U s.up.length s.ucap, .int .i64 s.now, .slice s.H s.hs.length s.hcap, .slice s.K s.ks.length s.kcap] 27)))
  have Y0 := hid (heap_newS (w := W.alloc (.cells #[.slice s.A s.xs.length s.cap, .slice s.U s.up.length s.ucap, .int .i64 s.now, .slice s.H s.hs.length s.hcap, .slice s.K s.ks.length s.kcap] 27)) (o := (.cells #[.int .i64 a.id, .slice a.A a.pl.length a.cap, .int .i64 a.m, .int .i64 a.v.a, .int .i64 a.v.b, .int .i64 a.v.c, .int .i64 a.v.d, .int .i64 a.k, .int .i64 a.s, .slice a.G a.g.length a.gc] 42)) (n := W.heap.size + 1) (by simp))
  have g0 := hid (show Below W.heap.size W ((W.alloc (.cells #[.slice s.A s.xs.length s.cap, .slice s.U s.up.length s.ucap, .int .i64 s.now, .slice s.H s.hs.length s.hcap, .slice s.K s.ks.length s.kcap] 27)).alloc (.cells #[.int .i64 a.id, .slice a.A a.pl.length a.cap, .int .i64 a.m, .int .i64 a.v.a, .int .i64 a.v.b, .int .i64 a.v.c, .int .i64 a.v.d, .int .i64 a.k, .int .i64 a.s, .slice a.G a.g.length a.gc] 42)) from by go_grown)
  clear h0 h1 hval hA ha hs
  go_enter Try.func7, Try.ntmps7
  go_wp2_with fail
  refine (KA.out _).mono ?_
  rintro _ w1 ⟨rfl, hb⟩
  have X1 := hid (keep0 hb X0.out)
  have Y1 := hid (keep0 hb Y0.out)
  have g1 := hid (below_step g0.out g0.out.size hb)
  clear hb KA
  have KF := hid (few_any W s w1 HS.out g1.out)
  obtain ⟨x0, x1, x2, x3, x4⟩ := five X1.out
  go_wp2_with fail
  with_reducible refine KF.out.mono ?_
  rintro _ w2 ⟨ok, rfl, hok, hb⟩
  have X2 := hid (keep0 hb X1.out)
  have Y2 := hid (keep0 hb Y1.out)
  have g2 := hid (below_step g1.out g1.out.size hb)
  have HOK := hid hok
  clear hb KF hok x0 x1 x2 x3 x4
  obtain ⟨x0, x1, x2, x3, x4⟩ := five X2.out
  obtain ⟨y0, y1, y2, y3, y4, y5, y6, y7, y8, y9⟩ := ten Y2.out
  cases ok with
  | false =>
    go_wp2_with fail
    go_returns
    exact ⟨rfl, g2.out⟩
  | true =>
  obtain ⟨kx, ku, kh, kk, khs, kks⟩ := HOK.out rfl
  by_cases ka : (30 : Int) < (a.pl.length : Int)
  · have d1 : decide ((30 : Int) < (a.pl.length : Int)) = true := decide_eq_true ka
    clear ka
    go_wp2_with fail
    go_returns
    exact ⟨rfl, g2.out⟩
  have d1 : decide ((30 : Int) < (a.pl.length : Int)) = false := decide_eq_false ka
  by_cases kb : (20 : Int) < (a.g.length : Int)
  · have d2 : decide ((20 : Int) < (a.g.length : Int)) = true := decide_eq_true kb
    clear ka kb
    go_wp2_with fail
    go_returns
    exact ⟨rfl, g2.out⟩
  have d2 : decide ((20 : Int) < (a.g.length : Int)) = false := decide_eq_false kb
  have KP := hid (scene_pass s w2 (HS.out.keep g2.out) ku (by omega))
  obtain ⟨E, hE⟩ : ∃ E, E = opnE s.xs s.up s.now (hdF s.hs) s.hs.length := ⟨_, rfl⟩
  have HE := hid hE
  unfold PassOut at KP
  rw [← hE] at KP
  clear ka kb kh khs hE
  go_wp2_with fail
  with_reducible refine KP.out.mono ?_
  rintro _ w3 ⟨sa, m, rfl, hb, hrow⟩
  have X3 := hid (keep0 hb X2.out)
  have Y3 := hid (keep0 hb Y2.out)
  have g3 := hid (below_step g2.out g2.out.size hb)
  have R3 := hid hrow
  have hmk := hrow.len
  clear hb hrow KP x0 x1 x2 x3 x4 y0 y1 y2 y3 y4 y5 y6 y7 y8 y9 d1 d2
  obtain ⟨S, hS⟩ : ∃ S, S = passS s.xs s.up s.now s.hs s.ks := ⟨_, rfl⟩
  have HSU := hid (show ∀ j i, i ∈ (S j).l → i < s.up.length ∧ s.up.getD i false = true from fun j i hi => by
    rw [hS] at hi
    exact slt_up hi)
  have HSL := hid (show ∀ j, (S j).l.length ≤ 16 from fun j => by
    rw [hS]
    exact slt_len)
  rw [← hS] at R3
  have HU := hid (HS.out.u.keep g3.out)
  obtain ⟨x0, x1, x2, x3, x4⟩ := five X3.out
  clear hS
  go_wp2_with fail
  go_loop [9] (fun x => ∃ k : Nat, k ≤ m ∧ x = .int .i64 k) (fun x => m - (intOf x).toNat)
  case atStart => exact ⟨0, Nat.zero_le _, rfl⟩
  case round =>
    obtain ⟨j, hj, rfl⟩ := hrel
    by_cases hlt : j < m
    · have hlt' : (j : Int) < (m : Int) := by omega
      obtain ⟨br, GA, gcap, hsa, hbrl, _, _, c2, hgc, hgn⟩ := R3.out.at hlt
      subst hsa
      obtain ⟨l, hl⟩ : ∃ l, l = (S j).l := ⟨_, rfl⟩
      have HLU := hid (HSU.out j)
      have HLL := HSL.out j
      rw [← hl] at c2 hgc hgn HLU HLL
      obtain ⟨z, hz⟩ : ∃ z, z = l.length := ⟨_, rfl⟩
      have HZ := hid hz
      have GN := hid hgn
      rw [← hz] at c2 hgc HLL
      clear hl hz hgn
      go_wp2_with fail
      go_loop [10] (fun x => ∃ k : Nat, k ≤ z ∧ x = .int .i64 k) (fun x => z - (intOf x).toNat)
      case atStart => exact ⟨0, Nat.zero_le _, rfl⟩
      case round =>
        obtain ⟨k, hk, rfl⟩ := hrel
        by_cases hkz : k < z
        · have hkz' : (k : Int) < (z : Int) := by omega
          obtain ⟨x, hx⟩ : ∃ x, l[k]? = some x := ⟨_, List.getElem?_eq_getElem (by have := HZ.out; omega)⟩
          obtain ⟨b, off, rfl, hc⟩ := GN.out.at (intL_at hx)
          have c0 := hc k _ (intL_at hx)
          obtain ⟨u1, u2⟩ := HLU.out x (List.mem_of_getElem? hx)
          have hux : s.up[x]? = some true := by
            rw [List.getD_eq_getElem?_getD, List.getElem?_eq_getElem u1] at u2
            rw [List.getElem?_eq_getElem u1]
            simpa using u2
          obtain ⟨ub, uoff, huA, uc⟩ := HU.out.at hux
          rw [huA] at x1
          have n1 : decide ((x : Int) < 0) = false := decide_eq_false (by omega)
          have n2 : decide ((s.up.length : Int) ≤ (x : Int)) = false := decide_eq_false (by omega)
          clear hc hx u2 hux huA
          go_wp2_with fail
          go_round
          case rel => exact ⟨k + 1, by omega, by go_num⟩
          case measure => simp [intOf]; omega
        · obtain rfl : k = z := by omega
          go_wp2_with fail
          go_round
          case rel => exact ⟨j + 1, by omega, by go_num⟩
          case measure => simp [intOf]; omega
    · have hmk := make_bools s.up.length (by omega)
      have B4 := hid (heap_new w3 (.cells (madeCells #[.bool false] s.up.length) 4))
      have X4 := hid (heapA (o := .cells (madeCells #[.bool false] s.up.length) 4) X3.out)
      have Y4 := hid (heapA (o := .cells (madeCells #[.bool false] s.up.length) 4) Y3.out)
      have g4 := hid (g3.out.alloc g3.out.size (.cells (madeCells #[.bool false] s.up.length) 4))
      have KD := scene_pass { s with U := some ⟨w3.heap.size, 0, none⟩, ucap := s.up.length, up := List.replicate s.up.length false } (w3.alloc (.cells (madeCells #[.bool false] s.up.length) 4)) (by
        have h := HS.out.keep g4.out
        exact ⟨h.x, h.xl, made_bs B4.out, by simp; omega, h.n, h.h, h.hl, h.k, h.kl⟩) (by simp; omega) (by simp; omega)
      unfold PassOut at KD
      simp only [List.length_replicate] at KD
      rw [opnE_up (up := List.replicate s.up.length false) (up' := s.up) (by simp), ← HE.out] at KD
      have HKD := hid KD
      obtain ⟨x0, x1, x2, x3, x4⟩ := five X4.out
      clear KD
      go_wp2_with fail
      with_reducible refine HKD.out.mono ?_
      rintro _ w5 ⟨sb, mb, rfl, hb, hrow⟩
      have X5 := hid (keep0 hb X4.out)
      have Y5 := hid (keep0 hb Y4.out)
      have g5 := hid (below_step g4.out g4.out.size hb)
      have R5 := hid hrow
      have hmb := hrow.len
      clear hb hrow HKD hmk x0 x1 x2 x3 x4 HU R3 HSU HSL X4 Y4 X3 Y3 B4
      go_wp2_with fail
      go_loop [15] (fun x => ∃ k : Nat, k ≤ mb ∧ x = .int .i64 k) (fun x => mb - (intOf x).toNat)
      case atStart => exact ⟨0, Nat.zero_le _, rfl⟩
      case round =>
        clear hlt hj
        obtain ⟨i, hi, rfl⟩ := hrel
        by_cases hlt2 : i < mb
        · have hlt2' : (i : Int) < (mb : Int) := by omega
          obtain ⟨br, GA, gcap, hsa, hbrl, _, c1, c2, _, _⟩ := R5.out.at hlt2
          subst hsa
          obtain ⟨e1, e2⟩ := passS_down (xs := s.xs) (n := s.up.length) (now := s.now) (hs := s.hs) (ks := s.ks) i
          rw [e1] at c1
          rw [e2] at c2
          clear e1 e2
          go_wp2_with fail
          go_round
          case rel => exact ⟨i + 1, by omega, by go_num⟩
          case measure => simp [intOf]; omega
        · obtain ⟨a', ha'⟩ : ∃ a' : Ak, a' = { a with s := -1 } := ⟨_, rfl⟩
          have Y6 : Hid ((w5.setCell ⟨W.heap.size + 1, 8, none⟩ (.int .i64 (-1))).heap[W.heap.size + 1]? = some (.cells #[.int .i64 a.id, .slice a.A a.pl.length a.cap, .int .i64 a.m, .int .i64 a.v.a, .int .i64 a.v.b, .int .i64 a.v.c, .int .i64 a.v.d, .int .i64 a.k, .int .i64 (-1), .slice a.G a.g.length a.gc] 42 (0, 0))) := hid (by simpa using heap_setCell_same w5 (W.heap.size + 1) 8 _ _ (.int .i64 (-1)) Y5.out)
          have X6 := hid ((heap_setCell_other w5 ⟨W.heap.size + 1, 8, none⟩ W.heap.size (.int .i64 (-1)) (by simp)).trans X5.out)
          have g6 := hid (g5.out.setCell (p := ⟨W.heap.size + 1, 8, none⟩) (by simp) (.int .i64 (-1)))
          obtain ⟨_, _, _, _, _, _, _, _, y8, _⟩ := ten Y5.out
          have f8 := free_of Y5.out 8
          have hsz5 : W.heap.size + 1 < w5.heap.size := lt_of Y5.out
          go_upto_region 25 with fail
          obtain ⟨w6, hw6⟩ : ∃ w6, w6 = w5.setCell ⟨W.heap.size + 1, 8, none⟩ (.int .i64 (-1)) := ⟨_, rfl⟩
          rw [← hw6] at Y6 X6 g6 ⊢
          clear hw6 y8 f8 Y5 X5 g5 R5 hsz5 hi hlt2
          obtain ⟨x0, x1, x2, x3, x4⟩ := five X6.out
          obtain ⟨y0, y1, y2, y3, y4, y5, y6, y7, y8, y9⟩ := ten Y6.out
          have B7 := hid (heap_new w6 (.cells #[.int .i64 a.id, .slice a.A a.pl.length a.cap, .int .i64 a.m, .int .i64 a.v.a, .int .i64 a.v.b, .int .i64 a.v.c, .int .i64 a.v.d, .int .i64 a.k, .int .i64 (-1), .slice a.G a.g.length a.gc] 42))
          have g7 := hid (g6.out.alloc g6.out.size (.cells #[.int .i64 a.id, .slice a.A a.pl.length a.cap, .int .i64 a.m, .int .i64 a.v.a, .int .i64 a.v.b, .int .i64 a.v.c, .int .i64 a.v.d, .int .i64 a.k, .int .i64 (-1), .slice a.G a.g.length a.gc] 42))
          have X7 := hid (heapA (o := .cells #[.int .i64 a.id, .slice a.A a.pl.length a.cap, .int .i64 a.m, .int .i64 a.v.a, .int .i64 a.v.b, .int .i64 a.v.c, .int .i64 a.v.d, .int .i64 a.k, .int .i64 (-1), .slice a.G a.g.length a.gc] 42) X6.out)
          have Y7 := hid (heapA (o := .cells #[.int .i64 a.id, .slice a.A a.pl.length a.cap, .int .i64 a.m, .int .i64 a.v.a, .int .i64 a.v.b, .int .i64 a.v.c, .int .i64 a.v.d, .int .i64 a.k, .int .i64 (-1), .slice a.G a.g.length a.gc] 42) Y6.out)
          have KO := scene_pass { s with H := none, hcap := 0, hs := [], K := some ⟨w6.heap.size, 0, none⟩, kcap := 1, ks := [a'] } (w6.alloc (.cells #[.int .i64 a.id, .slice a.A a.pl.length a.cap, .int .i64 a.m, .int .i64 a.v.a, .int .i64 a.v.b, .int .i64 a.v.c, .int .i64 a.v.d, .int .i64 a.k, .int .i64 (-1), .slice a.G a.g.length a.gc] 42)) (by
            have h := HS.out.keep g7.out
            have ha := HI.out.keep g7.out
            refine ⟨h.x, h.xl, h.u, h.ul, h.n, .inl rfl, by simp, ask_one (t := 42) ?_ ?_, by simp⟩
            · subst ha'
              exact B7.out
            · subst ha'
              exact ⟨ha.p, ha.pl, ha.g, ha.gl, ha.gc, ha.m, ha.k, (show i64 (-1) by unfold i64; omega)⟩) ku (by simp)
          unfold PassOut at KO
          change Calls Try.prog 12 #[.slice s.A s.xs.length s.cap, .slice s.U s.up.length s.ucap, .int .i64 s.now, .slice none 0 0, .slice (some ⟨w6.heap.size, 0, none⟩) 1 1] _ (fun e w' => ∃ (sa : Option Addr) (m : Nat), e = .returned (.tuple #[.slice sa m m, .int .i64 (opnE s.xs s.up s.now (hdF []) 0)]) ∧ Below (w6.alloc (.cells #[.int .i64 a.id, .slice a.A a.pl.length a.cap, .int .i64 a.m, .int .i64 a.v.a, .int .i64 a.v.b, .int .i64 a.v.c, .int .i64 a.v.d, .int .i64 a.k, .int .i64 (-1), .slice a.G a.g.length a.gc] 42)).heap.size (w6.alloc (.cells #[.int .i64 a.id, .slice a.A a.pl.length a.cap, .int .i64 a.m, .int .i64 a.v.a, .int .i64 a.v.b, .int .i64 a.v.c, .int .i64 a.v.d, .int .i64 a.k, .int .i64 (-1), .slice a.G a.g.length a.gc] 42)) w' ∧ OutRow (w6.alloc (.cells #[.int .i64 a.id, .slice a.A a.pl.length a.cap, .int .i64 a.m, .int .i64 a.v.a, .int .i64 a.v.b, .int .i64 a.v.c, .int .i64 a.v.d, .int .i64 a.k, .int .i64 (-1), .slice a.G a.g.length a.gc] 42)) w' sa m (opnE s.xs s.up s.now (hdF []) 0) 1 (passS s.xs s.up s.now [] [a'])) at KO
          obtain ⟨E2, hE2⟩ : ∃ E2, E2 = opnE s.xs s.up s.now (hdF []) 0 := ⟨_, rfl⟩
          have HE2 := hid hE2
          have HA' := hid ha'
          rw [← hE2] at KO
          have HKO := hid KO
          clear KO hE2 ha'
          go_wp2_with fail
          with_reducible refine HKO.out.mono ?_
          rintro _ w8 ⟨so, mo, rfl, hb, hrow⟩
          have X8 := hid (keep0 hb X7.out)
          have Y8 := hid (keep0 hb Y7.out)
          have g8 := hid (below_step g7.out g7.out.size hb)
          have R8 := hid hrow
          have hmo := hrow.len
          clear hb hrow HKO x0 x1 x2 x3 x4 y0 y1 y2 y3 y4 y5 y6 y7 y8 y9 X7 Y7 B7 X6 Y6
          have hbe : (E == E) = true := by simp
          have hbn : (E != E) = false := by simp
          by_cases he2 : E2 = 0
          rotate_left
          · obtain ⟨k1, k2⟩ := opnE_none (hs := s.hs) (xs := s.xs) (up := s.up) (now := s.now) (by rw [← HE2.out]; exact he2)
            rw [← HE2.out] at k1
            rw [← HE.out] at k2
            subst k1 k2
            clear hbe hbn
            go_wp2_with fail
            go_returns
            exact ⟨rfl, g8.out⟩
          · subst he2
            obtain ⟨_, hu, hn0, hn1, _⟩ := opnE_zero HE2.out.symm
            have hul : s.up.length ≤ s.xs.length := by omega
            clear hu
            have HT := hid (one_slot (a := a') HE2.out.symm (by rw [HA'.out]))
            obtain ⟨rb, hrb⟩ : ∃ rb, rb = askB a := ⟨_, rfl⟩
            have HRB := hid hrb
            have KC : Hid (Calls Try.prog 17 #[.agg #[.int .i64 a.id, .slice a.A a.pl.length a.cap, .int .i64 a.m, .int .i64 a.v.a, .int .i64 a.v.b, .int .i64 a.v.c, .int .i64 a.v.d, .int .i64 a.k, .int .i64 (-1), .slice a.G a.g.length a.gc]] w8 fun e w' => e = .returned (.bool rb) ∧ Below w8.heap.size w8 w') := hid (by rw [hrb]; exact can_any { a with s := -1 } w8)
            have KPl : Hid (∀ w9, Below w8.heap.size w8 w9 → Calls Try.prog 19 #[.agg #[.int .i64 a.id, .slice a.A a.pl.length a.cap, .int .i64 a.m, .int .i64 a.v.a, .int .i64 a.v.b, .int .i64 a.v.c, .int .i64 a.v.d, .int .i64 a.k, .int .i64 (-1), .slice a.G a.g.length a.gc], .slice s.U s.up.length s.ucap] w9 (PlPost w9 s.up a.pl)) := hid fun w9 hb => rplaces_any s.U s.ucap s.up { a with s := -1 } w9 (HS.out.u.keep (g8.out.trans (hb.mono g8.out.size))) (by omega) (HI.out.p.keep (g8.out.trans (hb.mono g8.out.size))) HI.out.pl
            obtain ⟨x0, x1, x2, x3, x4⟩ := five X8.out
            obtain ⟨y0, y1, y2, y3, y4, y5, y6, y7, y8, y9⟩ := ten Y8.out
            clear hrb
            go_wp2_with fail
            with_reducible refine KC.out.mono ?_
            rintro _ w9 ⟨rfl, hb⟩
            have X9 := hid (keep0 hb X8.out)
            have Y9 := hid (keep0 hb Y8.out)
            have g9 := hid (below_step g8.out g8.out.size hb)
            have R9 := hid (R8.out.keep hb)
            have KP9 := hid (KPl.out w9 hb)
            clear hb KC KPl x0 x1 x2 x3 x4 y0 y1 y2 y3 y4 y5 y6 y7 y8 y9
            obtain ⟨x0, x1, x2, x3, x4⟩ := five X9.out
            obtain ⟨y0, y1, y2, y3, y4, y5, y6, y7, y8, y9⟩ := ten Y9.out
            go_wp2_with fail
            with_reducible refine KP9.out.mono ?_
            rintro _ w10 ⟨pv, rfl, ho, hb⟩
            obtain ⟨PA, pcap, rfl, hpn⟩ := own_ns2 ho
            have X10 := hid (keep0 hb X9.out)
            have Y10 := hid (keep0 hb Y9.out)
            have g10 := hid (below_step g9.out g9.out.size hb)
            have R10 := hid (R9.out.keep hb)
            have N10 := hid hpn
            obtain ⟨z, hz⟩ : ∃ z, z = (plcN s.up a.pl).length := ⟨_, rfl⟩
            have HZ := hid hz
            have hz20 : z ≤ 20 := by
              rw [hz]
              exact Nat.le_trans (plK_le s.up a.pl s.up.length) ku
            rw [intL_len, ← hz]
            clear hb ho hpn hz KP9 x0 x1 x2 x3 x4 y0 y1 y2 y3 y4 y5 y6 y7 y8 y9 R8 R9 X8 X9 Y8 Y9
            go_wp2_with fail
            go_loopw [20, 21] (fun c x wr => ∃ k : Nat, k ≤ z ∧ (rb = false → k = 0) ∧ x = .int .i64 k ∧ c = .int .i64 (fitK s.xs s.up a k : Nat) ∧ Below w10.heap.size w10 wr) (fun _ x _ => z - (intOf x).toNat)
            case atStart => exact ⟨0, Nat.zero_le _, fun _ => rfl, rfl, rfl, Below.refl _ _⟩
            case round =>
              obtain ⟨k, hk, hrk, rfl, rfl, hg⟩ := hrel
              have HG := hid hg
              have XR := hid (keep0 hg X10.out)
              have YR := hid (keep0 hg Y10.out)
              have RR := hid (R10.out.keep hg)
              have NR := hid (N10.out.keep hg)
              have gR := hid (g10.out.trans (hg.mono g10.out.size))
              have HRK := hid hrk
              clear hg hrk
              obtain ⟨x0, x1, x2, x3, x4⟩ := five XR.out
              obtain ⟨y0, y1, y2, y3, y4, y5, y6, y7, y8, y9⟩ := ten YR.out
              by_cases hkz : k < z ∧ rb = true
              · obtain ⟨hkz, rfl⟩ := hkz
                have hkz' : (k : Int) < (z : Int) := by omega
                obtain ⟨x, hx⟩ : ∃ x, (plcN s.up a.pl)[k]? = some x := ⟨_, List.getElem?_eq_getElem (by have := HZ.out; omega)⟩
                obtain ⟨b, off, rfl, hc⟩ := NR.out.at (intL_at hx)
                have c0 := hc k _ (intL_at hx)
                have hxu := (plcN_mem.1 (List.mem_of_getElem? hx)).1
                obtain ⟨v, hv⟩ : ∃ v, s.xs[x]? = some v := ⟨_, List.getElem?_eq_getElem (by omega)⟩
                have hwv : wsF s.xs x = v := by simp [wsF, List.getD, hv]
                obtain ⟨vb, voff, hvA, v0, v1, v2', v3⟩ := (HS.out.x.keep gR.out).at hv
                rw [hvA] at x0
                have HK1 := hid (fitK_succ (xs := s.xs) hx)
                rw [hwv] at HK1
                have hfl := fitK_le (xs := s.xs) (up := s.up) (a := a) k
                have hxl : (x : Int) < (s.xs.length : Int) := by omega
                have zb : b < wr.heap.size := by simpa using block_lt_of_cell c0
                have zv : vb < wr.heap.size := by simpa using block_lt_of_cell v0
                have zW : W.heap.size < wr.heap.size := by simpa using block_lt_of_cell x0
                clear hc hx hv hwv hvA
                go_wp2_with fail
                go_region
                obtain ⟨wv, hwv⟩ : ∃ wv, wv = (wr.alloc (.cells #[.int .i64 v.a, .int .i64 v.b, .int .i64 v.c, .int .i64 v.d] 40)).drew := ⟨_, rfl⟩
                have QV : Hid (wv.heap[wr.heap.size]? = some (.cells #[.int .i64 v.a, .int .i64 v.b, .int .i64 v.c, .int .i64 v.d] 40 (0, 0))) := hid (by rw [hwv]; exact heap_new wr _)
                have gA : Below wr.heap.size wr wv := by rw [hwv]; exact Below.drew ((Below.refl _ _).alloc (Nat.le_refl _) _)
                have YV := hid (keep0 gA YR.out)
                have GV := hid (HG.out.trans (gA.mono HG.out.size))
                rw [← hwv]
                clear hwv gA x0 x1 x2 x3 x4 y0 y1 y2 y3 y4 y5 y6 y7 y8 y9 v0 v1 v2' v3 c0 zb zv zW
                obtain ⟨q0, q1, q2, q3⟩ := four QV.out
                obtain ⟨y0, y1, y2, y3, y4, y5, y6, y7, y8, y9⟩ := ten YV.out
                by_cases e0 : a.v.a ≤ v.a
                rotate_left
                · have d0 : decide (a.v.a ≤ v.a) = false := decide_eq_false e0
                  have HN := hid (show fitK s.xs s.up a (k + 1) = fitK s.xs s.up a k from by
                    rw [HK1.out, if_neg]
                    intro h
                    exact e0 (((V4.leB_iff _ _).1 h).1))
                  clear e0
                  go_wp2_with fail
                  go_roundw
                  case rel => exact ⟨k + 1, by omega, fun h => (by cases h), by go_num, by rw [HN.out], GV.out⟩
                  case measure => simp [intOf]; omega
                have d0 : decide (a.v.a ≤ v.a) = true := decide_eq_true e0
                by_cases e1 : a.v.b ≤ v.b
                rotate_left
                · have d1 : decide (a.v.b ≤ v.b) = false := decide_eq_false e1
                  have HN := hid (show fitK s.xs s.up a (k + 1) = fitK s.xs s.up a k from by
                    rw [HK1.out, if_neg]
                    intro h
                    exact e1 (((V4.leB_iff _ _).1 h).2.1))
                  clear e1
                  go_wp2_with fail
                  go_roundw
                  case rel => exact ⟨k + 1, by omega, fun h => (by cases h), by go_num, by rw [HN.out], GV.out⟩
                  case measure => simp [intOf]; omega
                have d1 : decide (a.v.b ≤ v.b) = true := decide_eq_true e1
                by_cases e2 : a.v.c ≤ v.c
                rotate_left
                · have d2 : decide (a.v.c ≤ v.c) = false := decide_eq_false e2
                  have HN := hid (show fitK s.xs s.up a (k + 1) = fitK s.xs s.up a k from by
                    rw [HK1.out, if_neg]
                    intro h
                    exact e2 (((V4.leB_iff _ _).1 h).2.2.1))
                  clear e2
                  go_wp2_with fail
                  go_roundw
                  case rel => exact ⟨k + 1, by omega, fun h => (by cases h), by go_num, by rw [HN.out], GV.out⟩
                  case measure => simp [intOf]; omega
                have d2 : decide (a.v.c ≤ v.c) = true := decide_eq_true e2
                by_cases e3 : a.v.d ≤ v.d
                rotate_left
                · have d3 : decide (a.v.d ≤ v.d) = false := decide_eq_false e3
                  have HN := hid (show fitK s.xs s.up a (k + 1) = fitK s.xs s.up a k from by
                    rw [HK1.out, if_neg]
                    intro h
                    exact e3 (((V4.leB_iff _ _).1 h).2.2.2))
                  clear e3
                  go_wp2_with fail
                  go_roundw
                  case rel => exact ⟨k + 1, by omega, fun h => (by cases h), by go_num, by rw [HN.out], GV.out⟩
                  case measure => simp [intOf]; omega
                have d3 : decide (a.v.d ≤ v.d) = true := decide_eq_true e3
                have HN := hid (show fitK s.xs s.up a (k + 1) = fitK s.xs s.up a k + 1 from by rw [HK1.out, if_pos ((V4.leB_iff _ _).2 ⟨e0, e1, e2, e3⟩)])
                clear e0 e1 e2 e3
                go_wp2_with fail
                go_roundw
                case rel => exact ⟨k + 1, by omega, fun h => (by cases h), by go_num, by rw [HN.out]; go_num, GV.out⟩
                case measure => simp [intOf]; omega
              · have HC := hid (show ∃ br c, so = some ⟨br, 0, none⟩ ∧ mo = 1 ∧ wr.cell? ⟨br, 1, none⟩ = some (.int .i64 c) ∧ c = (if fitB s.xs s.up s.now a = true then s.now else -1) from by
                  rcases id RR.out with ⟨h, _⟩ | ⟨_, h1, br, h2, _, h3⟩
                  · exact absurd rfl h
                  · subst h1
                    obtain ⟨br', A', cap', k1, _, _, k2, _⟩ := RR.out.at (j := 0) (by omega)
                    refine ⟨br', _, k1, rfl, by simpa using k2, ?_⟩
                    rw [HT.out, HA'.out]
                    rfl)
                obtain ⟨br, c, rfl, rfl, c1, hc⟩ := HC.out
                cases rb with
                | false =>
                  have e : fitB s.xs s.up s.now a = false := by
                    unfold fitB
                    rw [← HRB.out, Bool.false_and]
                  rw [e, if_neg (by decide)] at hc
                  subst hc
                  have n1 : ((-1 : Int) == s.now) = false := by simp; omega
                  clear hkz e HC
                  by_cases hkz : k < z
                  · have d1 : decide (k < z) = true := decide_eq_true hkz
                    have d0 : (k : Int) < (z : Int) := by omega
                    clear hkz
                    go_wp2_with fail
                    go_quiet (fail)
                    all_goals go_wp2_with fail
                    all_goals go_returns
                    all_goals exact ⟨rfl, dN gR.out _⟩
                  · have d1 : decide (k < z) = false := decide_eq_false hkz
                    clear hkz
                    go_wp2_with fail
                    go_quiet (fail)
                    all_goals go_wp2_with fail
                    all_goals go_returns
                    all_goals exact ⟨rfl, dN gR.out _⟩
                | true =>
                  obtain rfl : k = z := by
                    have : ¬ k < z := fun h => hkz ⟨h, rfl⟩
                    omega
                  have d1 : decide ((k : Int) < (k : Int)) = false := decide_eq_false (by omega)
                  have HN := hid (show fitK s.xs s.up a k = fitN s.xs s.up a from by rw [HZ.out, fitK_all])
                  have hfl := fitK_le (xs := s.xs) (up := s.up) (a := a) k
                  obtain ⟨f, hf⟩ : ∃ f, f = fitK s.xs s.up a k := ⟨_, rfl⟩
                  rw [← hf] at HN hfl ⊢
                  have e : fitB s.xs s.up s.now a = (decide (a.m ≤ (f : Int)) && decide (a.k ≤ 1099511627776 - s.now)) := by
                    unfold fitB
                    rw [← HRB.out, Bool.true_and, HN.out]
                  clear hf hkz HC
                  by_cases d2 : a.m ≤ (f : Int)
                  rotate_left
                  · have d2' : decide (a.m ≤ (f : Int)) = false := decide_eq_false d2
                    rw [e, d2', Bool.false_and, if_neg (by decide)] at hc
                    subst hc
                    have n1 : ((-1 : Int) == s.now) = false := by simp; omega
                    clear e d2
                    go_wp2_with fail
                    go_quiet (fail)
                    all_goals go_wp2_with fail
                    all_goals go_returns
                    all_goals exact ⟨rfl, dN gR.out _⟩
                  have d2' : decide (a.m ≤ (f : Int)) = true := decide_eq_true d2
                  by_cases d3 : a.k ≤ 1099511627776 - s.now
                  rotate_left
                  · have d3' : decide (a.k ≤ 1099511627776 - s.now) = false := decide_eq_false d3
                    rw [e, d2', d3', Bool.true_and, if_neg (by decide)] at hc
                    subst hc
                    have n1 : ((-1 : Int) == s.now) = false := by simp; omega
                    clear e d2 d3
                    go_wp2_with fail
                    go_quiet (fail)
                    all_goals go_wp2_with fail
                    all_goals go_returns
                    all_goals exact ⟨rfl, dN gR.out _⟩
                  · have d3' : decide (a.k ≤ 1099511627776 - s.now) = true := decide_eq_true d3
                    rw [e, d2', d3', Bool.true_and, if_pos rfl] at hc
                    subst hc
                    have n1 : (s.now == -1) = false := by simp; omega
                    have n2 : (s.now == s.now) = true := by simp
                    clear e d2 d3
                    go_wp2_with fail
                    go_quiet (fail)
                    all_goals go_wp2_with fail
                    all_goals go_returns
                    all_goals exact ⟨rfl, dN gR.out _⟩
end Go.Proofs.Ythkofnahimlijaa
