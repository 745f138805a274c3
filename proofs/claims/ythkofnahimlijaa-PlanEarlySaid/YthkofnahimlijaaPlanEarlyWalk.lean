/- The Go function PlanEarly, called with any arguments, returns true and leaves all that was there. Condition: none. -/
import Derived.Test.YthkofnahimlijaaPlan14
import Derived.Test.YthkofnahimlijaaRows
namespace Go.Proofs.Ythkofnahimlijaa
open Go Go.ChangeShapes Go.WideShapes Go.RowKit
set_option maxRecDepth 100000 in
set_option maxHeartbeats 4000000 in
theorem planEarly_walk {H : Type} {enc : TypeId × Value → H} (W : World) (base : Nat) (args : Array Value) (ds : List (DataW H))
    (hval : ∀ (j : Nat) t v, Try.f6.params[j]? = some t → args[j]? = some v → Value.okWide Try.prog W .any base t v)
    (hA : ∃ p, DataW.TrodAll enc Try.prog W 0 (fun _ => true) true Try.f6.params.toList args.toList ds p) 
    (_ : (DataW.weightsEach Try.prog (Try.f6.params.toList ++ (OpenSpec.ofChange Rows.planEarlySpec).bare.plain.varTypes Try.prog) (ds ++ [])).all (· ≤ reachBytes) = true)
    (_ : laidMetH Try.prog Rows.planEarlyRow.laid W) (_ : W.ShapedOpen Try.prog) :
    Calls Try.prog 6 args W fun e W' => e = .returned (.bool true) ∧ Below W.heap.size W W' := by
  obtain ⟨p, hA⟩ := hA
  rw [Try.params6] at hA hval
  obtain ⟨v0, d0, hargs, rfl, h0⟩ := trodAll_one hA
  subst hargs
  obtain ⟨s, rfl, hs⟩ := scene_is (hval 0 27 v0 rfl rfl) h0
  have HS := hid hs
  have KA := hid awake_any
  have X0 := hid (heap_new W (.cells #[.slice s.A s.xs.length s.cap, .slice s.U s.up.length s.ucap, .int .i64 s.now, .slice s.H s.hs.length s.hcap, .slice s.K s.ks.length s.kcap] 27))
  have g0 := hid (show Below W.heap.size W (W.alloc (.cells #[.slice s.A s.xs.length s.cap, .slice s.U s.up.length s.ucap, .int .i64 s.now, .slice s.H s.hs.length s.hcap, .slice s.K s.ks.length s.kcap] 27)) from by go_grown)
  clear h0 hval hA hs
  go_enter Try.func6, Try.ntmps6
  go_wp2_with fail
  refine (KA.out _).mono ?_
  rintro _ w1 ⟨rfl, hb⟩
  have X1 := hid (keep0 hb X0.out)
  have g1 := hid (below_step g0.out g0.out.size hb)
  clear hb KA
  have KF := hid (few_any W s w1 HS.out g1.out)
  obtain ⟨x0, x1, x2, x3, x4⟩ := five X1.out
  go_wp2_with fail
  with_reducible refine KF.out.mono ?_
  rintro _ w2 ⟨ok, rfl, hok, hb⟩
  have X2 := hid (keep0 hb X1.out)
  have g2 := hid (below_step g1.out g1.out.size hb)
  have HOK := hid hok
  clear hb KF hok x0 x1 x2 x3 x4
  obtain ⟨x0, x1, x2, x3, x4⟩ := five X2.out
  cases ok with
  | false =>
    go_wp2_with fail
    go_returns
    exact ⟨rfl, g2.out⟩
  | true =>
  obtain ⟨kx, ku, kh, kk, khs, kks⟩ := HOK.out rfl
  by_cases hN0 : s.ks.length = 0
  · have d1 : ((s.ks.length : Int) == 0) = true := by simp [hN0]
    clear hN0
    go_wp2_with fail
    go_returns
    exact ⟨rfl, g2.out⟩
  have d1 : ((s.ks.length : Int) == 0) = false := by rw [beq_eq_false_iff_ne]; omega
  have KP := hid (scene_pass s w2 (HS.out.keep g2.out) ku (by omega))
  obtain ⟨E, hE⟩ : ∃ E, E = opnE s.xs s.up s.now (hdF s.hs) s.hs.length := ⟨_, rfl⟩
  have HE := hid hE
  unfold PassOut at KP
  rw [← hE] at KP
  have hN1 : 0 < s.ks.length := by omega
  clear hE hN0
  go_wp2_with fail
  with_reducible refine KP.out.mono ?_
  rintro _ w3 ⟨sa, m, rfl, hb, hrow⟩
  have X3 := hid (keep0 hb X2.out)
  have g3 := hid (below_step g2.out g2.out.size hb)
  have R3 := hid hrow
  clear hb hrow KP x0 x1 x2 x3 x4 d1
  by_cases he : E = 0
  rotate_left
  · have d1 : (E != 0) = true := by simpa using he
    have d2 : (E == 0) = false := by simpa using he
    clear he
    go_wp2_with fail
    go_returns
    exact ⟨rfl, g3.out⟩
  subst he
  obtain ⟨N, hN⟩ : ∃ N, N = s.ks.length := ⟨_, rfl⟩
  obtain rfl : m = N := by
    rcases R3.out with ⟨h, _⟩ | ⟨_, h, _⟩
    · exact absurd rfl h
    · rw [hN, h]
  obtain ⟨L, hL⟩ : ∃ L, s.ks.length = L + 1 := ⟨s.ks.length - 1, by omega⟩
  have HL := hid hL
  have HN := hid hN
  have hE := HE.out.symm
  have KN := hid (gnew_any s.A s.cap s.xs w3 (HS.out.x.keep g3.out) HS.out.xl)
  obtain ⟨x0, x1, x2, x3, x4⟩ := five X3.out
  have HEZ := hid hE
  rw [← hN] at x4 hN1
  clear hE hL hN
  go_wp2_with fail
  with_reducible refine KN.out.mono ?_
  rintro _ w4 ⟨hb, ⟨rfl, hno⟩ | ⟨q, sv, ps, rfl, hok2, hp, _, hps⟩⟩
  · have hw := (opnE_zero HEZ.out).1
    unfold WhB at hw
    rw [Bool.and_eq_true, List.all_eq_true] at hw
    rcases hno with h | ⟨x, hx, h⟩
    · have := of_decide_eq_true hw.1
      omega
    · have := hw.2 x hx
      rw [h] at this
      cases this
  have G4 := hid hb
  obtain ⟨n, hn⟩ : ∃ n, n = s.xs.length := ⟨_, rfl⟩
  have HNN := hid hn
  rw [← hn] at hp hps
  have P4 := hid (show PL w4 q sv n ps (wsF s.xs) (fun i _ => wsF s.xs i) from hp)
  have HPS := hid hps
  obtain ⟨M, hM⟩ : ∃ M, M = s.hs.length := ⟨_, rfl⟩
  have HM := hid hM
  have hMl : M ≤ 8 := by omega
  have hm10 : m ≤ 10 := by have := HN.out; omega
  clear hb KN hok2 hp hps x0 x1 x2 x3 x4 hn hM
  obtain ⟨x0, x1, x2, x3, x4⟩ := five (keep0 G4.out X3.out)
  rw [← HM.out] at x3
  rw [← HN.out] at x4
  have db : ((m : Int) != (m : Int)) = false := by simp
  go_wp2_with fail
  clear db
  go_loopw [8] (fun x wr => ∃ k : Nat, k ≤ M ∧ x = .int .i64 k ∧ Below w3.heap.size w3 wr ∧ PL wr q sv n ps (wsF s.xs) (hFl n s.now (fun i _ => wsF s.xs i) (hdF s.hs) k)) (fun x _ => M - (intOf x).toNat)
  case atStart => exact ⟨0, Nat.zero_le _, rfl, G4.out, P4.out⟩
  case round =>
    clear G4 P4 x0 x1 x2 x3 x4
    obtain ⟨k, hk, rfl, hg, hp⟩ := hrel
    have HG := hid hg
    have HP := hid hp
    have XR := hid (keep0 hg X3.out)
    have gR := hid (g3.out.trans (hg.mono g3.out.size))
    clear hg hp
    obtain ⟨x0, x1, x2, x3, x4⟩ := five XR.out
    rw [← HM.out] at x3
    rw [← HN.out] at x4
    by_cases hlt : k < M
    · have hlt' : (k : Int) < (M : Int) := by omega
      obtain ⟨h, hh⟩ : ∃ h, s.hs[k]? = some h := ⟨_, List.getElem?_eq_getElem (by have := HM.out; omega)⟩
      obtain ⟨hin, b, off, hA, hbl, c0, c1, c2, c3, c4, c5⟩ := (HS.out.h.keep gR.out).at hh
      rw [hA] at x3
      have hxk : hdF s.hs k = h := by simp [hdF, List.getD, hh]
      have HF1 : Hid (hFl n s.now (fun i _ => wsF s.xs i) (hdF s.hs) (k + 1) = pkF n (hFl n s.now (fun i _ => wsF s.xs i) (hdF s.hs) k) h.g s.now (max h.u (s.now + 1)) h.v) := hid (by
        show pkF _ _ (hdF s.hs k).g _ _ _ = _
        rw [hxk])
      have KT := hid (take_all2 q sv n ps (wsF s.xs) (hFl n s.now (fun i _ => wsF s.xs i) (hdF s.hs) k) h.G h.gc h.g s.now (max h.u (s.now + 1)) h.v _ (HP.out.keep (Below.drew (Below.refl _ _))) (hin.n.keep (Below.drew gR.out)) hin.len (hin.n.apx (fun i hi => Nat.le_trans g3.out.size (HPS.out i hi))))
      have hnr := HS.out.n
      have hn1 := (opnE_zero HEZ.out).2.2.2.1
      have hn0 := (opnE_zero HEZ.out).2.2.1
      have HWR := hid (show IntKind.i64.wrap (s.now + 1) = s.now + 1 from IntWalk.i64_in _ (by omega))
      have HXF : Hid (∀ w6, Below w3.heap.size w3 w6 → w6.heap[W.heap.size]? = some (.cells #[.slice s.A s.xs.length s.cap, .slice s.U s.up.length s.ucap, .int .i64 s.now, .slice (some ⟨b, off, none⟩) M s.hcap, .slice s.K m s.kcap] 27 (0, 0)) ∧ Hds W w6 (some ⟨b, off, none⟩) s.hs) := hid fun w6 hb => ⟨by
          have := keep0 hb X3.out
          rw [hA, ← HM.out, ← HN.out] at this
          exact this, by
          have := HS.out.h.keep (g3.out.trans (hb.mono g3.out.size))
          rw [hA] at this
          exact this⟩
      have HH := hid hh
      clear hin hxk hA hh
      go_wp2_with fail
      go_region_held3 (fun w' => w'.cell? ⟨W.heap.size, 2, none⟩ = some (.int .i64 s.now) ∧ w'.cell? ⟨W.heap.size, 3, none⟩ = some (.slice (some ⟨b, off, none⟩) M s.hcap) ∧ w'.cell? ⟨b, off + k * 6, none⟩ = some (.slice h.G h.g.length h.gc) ∧ w'.cell? ⟨b, off + k * 6 + 1, none⟩ = some (.int .i64 h.v.a) ∧ w'.cell? ⟨b, off + k * 6 + 2, none⟩ = some (.int .i64 h.v.b) ∧ w'.cell? ⟨b, off + k * 6 + 3, none⟩ = some (.int .i64 h.v.c) ∧ w'.cell? ⟨b, off + k * 6 + 4, none⟩ = some (.int .i64 h.v.d) ∧ w'.cell? ⟨b, off + k * 6 + 5, none⟩ = some (.int .i64 h.u)) (first | exact ⟨x2, x3, c0, c1, c2, c3, c4, c5⟩ | exact ⟨z2, z3, e0, e1, e2, e3, e4, e5⟩ | go_keep)
        (first | (go_at_call 16; (try rw [HWR.out]); (refine KT.out.mono ?_); rintro _ w6 ⟨rfl, hp, hf⟩; have P6 := hid hp; have g6 := hid (FrP.below (Below.drew HG.out) hf HPS.out); obtain ⟨hq1, hq2⟩ := HXF.out _ g6.out; obtain ⟨_, _, z2, z3, _⟩ := five hq1; obtain ⟨_, _, _, hA6, _, e0, e1, e2, e3, e4, e5⟩ := hq2.at HH.out; cases hA6; clear hp hf hq1 hq2))
      all_goals go_wp2_with fail
      all_goals go_roundw
      case rel => exact ⟨k + 1, by omega, by go_num, g6.out, by rw [HF1.out]; exact P6.out⟩
      case measure => simp [intOf]; omega
    · obtain rfl : M = k := by omega
      obtain ⟨PF, hPF⟩ : ∃ PF, PF = fun j => freeOf (wsF s.xs) (passP s.xs s.up s.now s.hs s.ks j) := ⟨_, rfl⟩
      have HPF := hid hPF
      have HP0 : Hid (PL wr q sv n ps (wsF s.xs) (PF 0)) := hid (by
        have h1 := (pass_good (hs := s.hs) HEZ.out).1
        rw [← HNN.out, ← HM.out] at h1
        have h2 := HP.out
        rw [h1] at h2
        rw [hPF]
        exact h2)
      obtain ⟨S, hS⟩ : ∃ S, S = passS s.xs s.up s.now s.hs s.ks := ⟨_, rfl⟩
      have HSS := hid hS
      obtain ⟨al, hal⟩ : ∃ al, al = akF s.ks := ⟨_, rfl⟩
      have HAL := hid hal
      have R3' := R3.out
      rw [← HN.out, ← hS] at R3'
      have R5 := hid R3'
      clear R3 R3' hPF hS hal
      go_wp2_with fail
      go_loopw [9] (fun x wz => ∃ k : Nat, k ≤ m ∧ x = .int .i64 k ∧ Below w3.heap.size w3 wz ∧ PL wz q sv n ps (wsF s.xs) (PF k)) (fun x _ => m - (intOf x).toNat)
      case atStart => exact ⟨0, Nat.zero_le _, rfl, HG.out, HP0.out⟩
      case round =>
        clear HG HP XR gR HP0 x0 x1 x2 x3 x4 hlt hk
        obtain ⟨j, hj, rfl, hg, hp⟩ := hrel
        have HG := hid hg
        have HP := hid hp
        have XR := hid (keep0 hg X3.out)
        have gR := hid (g3.out.trans (hg.mono g3.out.size))
        have RR := hid (R5.out.keep hg)
        clear hg hp
        obtain ⟨x0, x1, x2, x3, x4⟩ := five XR.out
        rw [← HN.out] at x4
        by_cases hlt : j < m
        · have hlt' : (j : Int) < (m : Int) := by omega
          obtain ⟨a, ha⟩ : ∃ a, s.ks[j]? = some a := ⟨_, List.getElem?_eq_getElem (by have := HN.out; omega)⟩
          obtain ⟨hin, ab, aoff, hA, hbl, c0, c1, c2, c3, c4, c5, c6, c7, c8, c9⟩ := (HS.out.k.keep gR.out).at ha
          rw [hA] at x4
          have hak : al j = a := by simp [HAL.out, akF, List.getD, ha]
          obtain ⟨br, GA, gcap, hsa, hbrl, r0, r1, r2, hgc, hgn⟩ := RR.out.at hlt
          obtain ⟨_, GA', gcap', hsa', _, _, _, r2', _, hgn'⟩ := R5.out.at hlt
          have hGA : GA' = GA ∧ gcap' = gcap := by
            have h1 := r2
            rw [hsa] at hsa'
            cases hsa'
            rw [HG.out.cell (p := ⟨br, j * 3 + 2, none⟩) (by simpa using block_lt_of_cell r2'), r2'] at h1
            simp at h1
            exact h1
          have hap : intL (S j).l ≠ [] → Apart GA n ps := by
            rw [← hGA.1]
            exact hgn'.apx HPS.out
          subst hsa
          obtain ⟨t, ht⟩ : ∃ t, t = (S j).t := ⟨_, rfl⟩
          obtain ⟨l, hl⟩ : ∃ l, l = (S j).l := ⟨_, rfl⟩
          have hll : l.length ≤ 16 := by
            rw [hl, HSS.out]
            exact slt_len
          have HST : Hid (0 ≤ t → pkF n (PF j) (intL l) t (t + a.k) a.v = PF (j + 1) ∧ t + a.k ≤ 1099511627776 ∧ 0 < a.k) := hid fun h0 => by
            have h1 := passP_step (ks := s.ks) HEZ.out (k := j) (by have := HN.out; omega) (by rw [← HSS.out, ← ht]; exact h0)
            have h2 := passS_found (ks := s.ks) HEZ.out (k := j) (by rw [← HSS.out, ← ht]; exact h0)
            rw [← HSS.out, ← ht, ← HAL.out, hak] at h2
            have h3 := h1.1
            rw [← HSS.out, ← ht, ← hl, ← HAL.out, hak, ← HNN.out] at h3
            rw [HPF.out]
            exact ⟨h3, h2.1, h2.2⟩
          have HSK : Hid (¬ 0 ≤ t → PF (j + 1) = PF j) := hid fun h0 => by
            have h1 := passP_skip (ks := s.ks) HEZ.out (k := j) (by rw [← HSS.out, ← ht]; exact h0)
            rw [HPF.out]
            show freeOf _ _ = freeOf _ _
            rw [h1]
          rw [← ht] at r1
          rw [← hl] at r2 hap hgc hgn
          have HA := hid ha
          by_cases h0 : 0 ≤ t
          rotate_left
          · have d0 : decide (0 ≤ t) = false := decide_eq_false h0
            have HS1 := hid (HSK.out h0)
            clear h0 ht hl ha hak hin hA hgn hgn' r2' hsa' hGA hap
            go_wp2_with fail
            go_roundw
            case rel => exact ⟨j + 1, by omega, by go_num, HG.out, by rw [HS1.out]; exact HP.out⟩
            case measure => simp [intOf]; omega
          have d0 : decide (0 ≤ t) = true := decide_eq_true h0
          obtain ⟨h1, h2, h3⟩ := HST.out h0
          have HS1 := hid h1
          have HWR := hid (show IntKind.i64.wrap (t + a.k) = t + a.k from IntWalk.i64_in _ (by omega))
          have KT0 := take_all2 q sv n ps (wsF s.xs) (PF j) GA gcap (intL l) t (t + a.k) a.v _ (HP.out.keep (Below.drew (Below.refl _ _))) (hgn.keep (Below.drew (Below.refl _ _))) (by rw [intL_len]; omega) hap
          rw [intL_len] at KT0
          have KT := hid KT0
          have HXF : Hid (∀ w6, Below w3.heap.size w3 w6 → w6.heap[W.heap.size]? = some (.cells #[.slice s.A s.xs.length s.cap, .slice s.U s.up.length s.ucap, .int .i64 s.now, .slice s.H s.hs.length s.hcap, .slice (some ⟨ab, aoff, none⟩) m s.kcap] 27 (0, 0)) ∧ Aks W w6 (some ⟨ab, aoff, none⟩) s.ks ∧ w6.cell? ⟨br, j * 3 + 1, none⟩ = some (.int .i64 t) ∧ w6.cell? ⟨br, j * 3 + 2, none⟩ = some (.slice GA l.length gcap)) := hid fun w6 hb => ⟨by
              have := keep0 hb X3.out
              rw [hA, ← HN.out] at this
              exact this, by
              have := HS.out.k.keep (g3.out.trans (hb.mono g3.out.size))
              rw [hA] at this
              exact this, by
              obtain ⟨b2, GA2, gcap2, e1, _, _, e2, _⟩ := (R5.out.keep hb).at hlt
              cases e1
              rw [ht]
              exact e2, by
              obtain ⟨b2, GA2, gcap2, e1, _, _, _, e2, _⟩ := (R5.out.keep hb).at hlt
              cases e1
              obtain ⟨b3, GA3, gcap3, e3, e4, _, _, e5, _⟩ := R5.out.at hlt
              cases e3
              have e6 := e2
              rw [hb.cell (p := ⟨br, j * 3 + 2, none⟩) e4, e5] at e6
              have e7 := r2'
              cases hsa'
              rw [e5] at e7
              simp only [Option.some.injEq, Value.slice.injEq] at e6 e7
              rw [hl, e2, ← e6.1, ← e6.2.2, e7.1, e7.2.2, hGA.1, hGA.2]⟩
          clear h0 h1 ht hl ha hak hin hA hgn hgn' r2' hsa' hGA hap KT0
          go_wp2_with fail
          go_region_held3 (fun w' => w'.cell? ⟨W.heap.size, 4, none⟩ = some (.slice (some ⟨ab, aoff, none⟩) m s.kcap) ∧ w'.cell? ⟨br, j * 3 + 1, none⟩ = some (.int .i64 t) ∧ w'.cell? ⟨br, j * 3 + 2, none⟩ = some (.slice GA l.length gcap) ∧ w'.cell? ⟨ab, aoff + j * 10 + 3, none⟩ = some (.int .i64 a.v.a) ∧ w'.cell? ⟨ab, aoff + j * 10 + 4, none⟩ = some (.int .i64 a.v.b) ∧ w'.cell? ⟨ab, aoff + j * 10 + 5, none⟩ = some (.int .i64 a.v.c) ∧ w'.cell? ⟨ab, aoff + j * 10 + 6, none⟩ = some (.int .i64 a.v.d) ∧ w'.cell? ⟨ab, aoff + j * 10 + 7, none⟩ = some (.int .i64 a.k)) (first | exact ⟨x4, r1, r2, c3, c4, c5, c6, c7⟩ | exact ⟨z4, u1, u2, e3, e4, e5, e6, e7⟩ | go_keep)
            (first | (go_at_call 16; (try rw [HWR.out]); (refine KT.out.mono ?_); rintro _ w6 ⟨rfl, hp, hf⟩; have P6 := hid hp; have g6 := hid (FrP.below (Below.drew HG.out) hf HPS.out); obtain ⟨hq1, hq2, u1, u2⟩ := HXF.out _ g6.out; obtain ⟨_, _, _, _, z4⟩ := five hq1; obtain ⟨_, _, _, hA6, _, e0, e1, e2, e3, e4, e5, e6, e7, e8, e9⟩ := hq2.at HA.out; cases hA6; clear hp hf hq1 hq2))
          all_goals go_wp2_with fail
          all_goals go_roundw
          case rel => exact ⟨j + 1, by omega, by go_num, g6.out, by rw [← HS1.out]; exact P6.out⟩
          case measure => simp [intOf]; omega
        · obtain rfl : m = j := by omega
          obtain ⟨a, ha⟩ : ∃ a, s.ks[L]? = some a := ⟨_, List.getElem?_eq_getElem (by have := HL.out; omega)⟩
          obtain ⟨hin, ab, aoff, hA, hbl, c0, c1, c2, c3, c4, c5, c6, c7, c8, c9⟩ := (HS.out.k.keep gR.out).at ha
          rw [hA] at x4
          have hak : al L = a := by simp [HAL.out, akF, List.getD, ha]
          have hLm : L < m := by have := HL.out; have := HN.out; omega
          have hm1 : (m : Int) - 1 = (L : Int) := by have := HL.out; have := HN.out; omega
          have hLm' : (L : Int) < (m : Int) := by omega
          have HIN := hid (hin.keep gR.out)
          have HA2 := hid ha
          obtain ⟨t, ht⟩ : ∃ t, t = (S L).t := ⟨_, rfl⟩
          obtain ⟨l, hl⟩ : ∃ l, l = (S L).l := ⟨_, rfl⟩
          have hll : l.length ≤ 16 := by
            rw [hl, HSS.out]
            exact slt_len
          have HLS : Hid (slt s.up n s.now (PF L) a = S L) := hid (by
            rw [HSS.out, passS_last HEZ.out HL.out, HPF.out, HNN.out, ← HAL.out, hak])
          have HMS : Hid (m = L + 1) := hid (by have := HL.out; have := HN.out; omega)
          have HT := hid ht
          have HLL := hid hl
          have HSTEP : Hid (0 ≤ t → gvF n (wsF s.xs) (PF (L + 1)) (intL l) t (t + a.k) a.v = PF L ∧ t + a.k ≤ 1099511627776 ∧ 0 < a.k) := hid fun h0 => by
            have h1 := (passP_step (ks := s.ks) HEZ.out (k := L) (by have := HL.out; omega) (by rw [← HSS.out, ← ht]; exact h0)).2
            have h2 := passS_found (ks := s.ks) HEZ.out (k := L) (by rw [← HSS.out, ← ht]; exact h0)
            rw [← HSS.out, ← ht, ← HAL.out, hak] at h2
            rw [← HSS.out, ← ht, ← hl, ← HAL.out, hak, ← HNN.out] at h1
            rw [HPF.out]
            exact ⟨h1, h2.1, h2.2⟩
          have HSKIP : Hid (¬ 0 ≤ t → PF (L + 1) = PF L) := hid fun h0 => by
            have h1 := passP_skip (ks := s.ks) HEZ.out (k := L) (by rw [← HSS.out, ← ht]; exact h0)
            rw [HPF.out]
            show freeOf _ _ = freeOf _ _
            rw [h1]
          obtain ⟨rb, hrb⟩ : ∃ rb, rb = askB a := ⟨_, rfl⟩
          have HRB := hid hrb
          have Y5 := hid (heap_new wr (.cells #[.int .i64 a.id, .slice a.A a.pl.length a.cap, .int .i64 a.m, .int .i64 a.v.a, .int .i64 a.v.b, .int .i64 a.v.c, .int .i64 a.v.d, .int .i64 a.k, .int .i64 a.s, .slice a.G a.g.length a.gc] 42))
          have G5 := hid (show Below wr.heap.size wr (wr.alloc (.cells #[.int .i64 a.id, .slice a.A a.pl.length a.cap, .int .i64 a.m, .int .i64 a.v.a, .int .i64 a.v.b, .int .i64 a.v.c, .int .i64 a.v.d, .int .i64 a.k, .int .i64 a.s, .slice a.G a.g.length a.gc] 42)) from (Below.refl _ _).alloc (Nat.le_refl _) _)
          have KC : Hid (Calls Try.prog 17 #[.agg #[.int .i64 a.id, .slice a.A a.pl.length a.cap, .int .i64 a.m, .int .i64 a.v.a, .int .i64 a.v.b, .int .i64 a.v.c, .int .i64 a.v.d, .int .i64 a.k, .int .i64 a.s, .slice a.G a.g.length a.gc]] (wr.alloc (.cells #[.int .i64 a.id, .slice a.A a.pl.length a.cap, .int .i64 a.m, .int .i64 a.v.a, .int .i64 a.v.b, .int .i64 a.v.c, .int .i64 a.v.d, .int .i64 a.k, .int .i64 a.s, .slice a.G a.g.length a.gc] 42)) fun e w' => e = .returned (.bool rb) ∧ Below (wr.alloc (.cells #[.int .i64 a.id, .slice a.A a.pl.length a.cap, .int .i64 a.m, .int .i64 a.v.a, .int .i64 a.v.b, .int .i64 a.v.c, .int .i64 a.v.d, .int .i64 a.k, .int .i64 a.s, .slice a.G a.g.length a.gc] 42)).heap.size (wr.alloc (.cells #[.int .i64 a.id, .slice a.A a.pl.length a.cap, .int .i64 a.m, .int .i64 a.v.a, .int .i64 a.v.b, .int .i64 a.v.c, .int .i64 a.v.d, .int .i64 a.k, .int .i64 a.s, .slice a.G a.g.length a.gc] 42)) w') := hid (by rw [hrb]; exact can_any a _)
          obtain ⟨y0, y1, y2, y3, y4, y5, y6, y7, y8, y9⟩ := ten Y5.out
          clear hin hA ha hak ht hl hrb hlt
          go_wp2_with fail
          with_reducible refine KC.out.mono ?_
          rintro _ wa ⟨rfl, hb⟩
          have Ga := hid (G5.out.trans (hb.mono G5.out.size))
          have Ya := hid (keep0 hb Y5.out)
          have Xa := hid (keep0 Ga.out XR.out)
          have Pa := hid (HP.out.keep Ga.out)
          have Ra := hid (RR.out.keep Ga.out)
          have ga := hid (gR.out.trans (Ga.out.mono gR.out.size))
          have HGa := hid (HG.out.trans (Ga.out.mono HG.out.size))
          have zba := lt_of Ya.out
          clear hb KC Y5 G5 x0 x1 x2 x3 x4 c0 c1 c2 c3 c4 c5 c6 c7 c8 c9 y0 y1 y2 y3 y4 y5 y6 y7 y8 y9
          obtain ⟨br, GA, gcap, rfl, hbrl, _, r1, r2, hgc, hgn⟩ := R5.out.at hLm
          rw [← HT.out] at r1
          rw [← HLL.out] at r2 hgc hgn
          have HR3 := hid (fun w6 (hb : Below w3.heap.size w3 w6) => And.intro ((hb.cell (p := ⟨br, L * 3 + 1, none⟩) hbrl).trans r1) (And.intro ((hb.cell (p := ⟨br, L * 3 + 2, none⟩) hbrl).trans r2) (hgn.keep hb)))
          have hap := hgn.apx HPS.out
          have HAP := hid hap
          clear r1 r2 hgn hap
          obtain ⟨r1, r2, _⟩ := HR3.out _ HGa.out
          obtain ⟨x0, xu, xn, x3, x4⟩ := five Xa.out
          obtain ⟨y0, y1, y2, y3, y4, y5, y6, y7, y8, y9⟩ := ten Ya.out
          cases rb with
          | false =>
            have e : t = -1 := by
              rw [HT.out, ← HLS.out]
              exact sltT HRB.out.symm
            subst e
            go_wp2_with fail
            go_returns
            exact ⟨rfl, ga.out⟩
          | true =>
          have HIa := hid (HIN.out.keep Ga.out)
          by_cases h0 : 0 ≤ t
          rotate_left
          · have e : t = -1 ∧ ∀ u, ¬ Fnd s.up n s.now (PF L) a u := by
              have h1 := slt_not (up := s.up) (n := n) (now := s.now) (F := PF L) (a := a) (by rw [HLS.out, ← HT.out]; exact h0)
              refine ⟨?_, h1.2⟩
              rw [HT.out, ← HLS.out, h1.1]
            obtain ⟨rfl, hnf⟩ := e
            have HNF := hid (show ∀ u, ¬ FindOk n (PF L) (intL (plcN s.up a.pl)) a.v s.now a.k a.m u from fun u hu => hnf u ⟨HRB.out.symm, hu⟩)
            have PL' : Hid (PL wa q sv n ps (wsF s.xs) (PF L)) := hid (by
              have h1 := Pa.out
              rw [HMS.out, HSKIP.out (by decide)] at h1
              exact h1)
            have KPl := hid (fun w6 (hb : Below wa.heap.size wa w6) => rplaces_any s.U s.ucap s.up a w6 (HS.out.u.keep (ga.out.trans (hb.mono ga.out.size))) (by omega) (HIa.out.p.keep hb) HIa.out.pl)
            have KFi : Hid (∀ PA pcap w6, Below wa.heap.size wa w6 → Ns w6 PA (intL (plcN s.up a.pl)) → Calls Try.prog 18 #[.pointer (some ⟨q, 0, none⟩), .slice PA (intL (plcN s.up a.pl)).length pcap, .int .i64 a.m, .agg #[.int .i64 a.v.a, .int .i64 a.v.b, .int .i64 a.v.c, .int .i64 a.v.d], .int .i64 a.k, .int .i64 s.now] w6 fun e w' => ∃ ft fv fb, e = .returned (.tuple #[.int .i64 ft, fv, .bool fb]) ∧ Below w6.heap.size w6 w' ∧ Hid ((fb = true ∧ FindOk n (PF L) (intL (plcN s.up a.pl)) a.v s.now a.k a.m ft ∧ w'.ownsRow w6.heap.size 3 1 fv a.m.toNat (nums ((openL n (PF L) (intL (plcN s.up a.pl)) ft (ft + a.k) a.v).take a.m.toNat))) ∨ (fb = false ∧ ∀ t, ¬ FindOk n (PF L) (intL (plcN s.up a.pl)) a.v s.now a.k a.m t))) := hid fun PA pcap w6 hb hn => Calls.mono (find_all q sv n ps (wsF s.xs) (PF L) PA pcap (intL (plcN s.up a.pl)) a.m a.k s.now a.v w6 (PL'.out.keep hb) hn (by rw [intL_len]; have := plK_le s.up a.pl s.up.length; show (plK s.up a.pl s.up.length).length ≤ _; omega) HIa.out.k.2 HS.out.n.2) (by
              rintro e w' ⟨hb, ⟨t, v', rfl, h1, h2⟩ | ⟨rfl, h1⟩⟩
              · exact ⟨t, v', true, rfl, hb, hid (.inl ⟨rfl, h1, h2⟩)⟩
              · exact ⟨0, _, false, rfl, hb, hid (.inr ⟨rfl, h1⟩)⟩)
            have HXF := hid (fun w6 (hb : Below wa.heap.size wa w6) => And.intro (keep0 hb Ya.out) (keep0 hb Xa.out))
            clear hnf h0
            go_wp2_with fail
            go_region_held3 (fun w' => w'.cell? ⟨wr.heap.size, 0, none⟩ = some (.int .i64 a.id) ∧ w'.cell? ⟨wr.heap.size, 1, none⟩ = some (.slice a.A a.pl.length a.cap) ∧ w'.cell? ⟨wr.heap.size, 2, none⟩ = some (.int .i64 a.m) ∧ w'.cell? ⟨wr.heap.size, 3, none⟩ = some (.int .i64 a.v.a) ∧ w'.cell? ⟨wr.heap.size, 4, none⟩ = some (.int .i64 a.v.b) ∧ w'.cell? ⟨wr.heap.size, 5, none⟩ = some (.int .i64 a.v.c) ∧ w'.cell? ⟨wr.heap.size, 6, none⟩ = some (.int .i64 a.v.d) ∧ w'.cell? ⟨wr.heap.size, 7, none⟩ = some (.int .i64 a.k) ∧ w'.cell? ⟨wr.heap.size, 8, none⟩ = some (.int .i64 a.s) ∧ w'.cell? ⟨wr.heap.size, 9, none⟩ = some (.slice a.G a.g.length a.gc) ∧ w'.cell? ⟨W.heap.size, 1, none⟩ = some (.slice s.U s.up.length s.ucap) ∧ w'.cell? ⟨W.heap.size, 2, none⟩ = some (.int .i64 s.now)) (first | exact ⟨y0, y1, y2, y3, y4, y5, y6, y7, y8, y9, xu, xn⟩ | exact ⟨z0, z1, z2, z3, z4, z5, z6, z7, z8, z9, zu, zn⟩ | exact ⟨v0, v1, v2', v3, v4, v5, v6, v7, v8, v9, vu, vn⟩ | go_keep)
              (first
                | (go_at_call 19; (refine (KPl.out _ (Below.drew (Below.refl _ _))).mono ?_); rintro _ w6 ⟨pv, rfl, ho, hb⟩; obtain ⟨PA, pcap, rfl, hpn⟩ := own_ns2 ho; have G6 := hid (show Below wa.heap.size wa w6 from unD hb); have N6 := hid hpn; obtain ⟨hq1, hq2⟩ := HXF.out _ G6.out; obtain ⟨z0, z1, z2, z3, z4, z5, z6, z7, z8, z9⟩ := ten hq1; obtain ⟨_, zu, zn, _, _⟩ := five hq2; clear ho hb hpn hq1 hq2)
                | (go_at_call 18; (refine (KFi.out PA pcap _ G6.out N6.out).mono ?_); rintro _ w7 ⟨ft, fv, fb, rfl, hb, HFR⟩; have G7 := hid (G6.out.trans (hb.mono G6.out.size)); obtain ⟨hq1, hq2⟩ := HXF.out _ G7.out; obtain ⟨v0, v1, v2', v3, v4, v5, v6, v7, v8, v9⟩ := ten hq1; obtain ⟨_, vu, vn, _, _⟩ := five hq2; clear hb hq1 hq2))
            rcases HFR.out with ⟨_, hok, _⟩ | ⟨rfl, _⟩
            · exact absurd hok (HNF.out ft)
            have g7 := hid (ga.out.trans (G7.out.mono ga.out.size))
            clear HFR
            go_wp2_with fail
            go_returns
            exact ⟨rfl, g7.out⟩
          · have d0 : decide (t < 0) = false := decide_eq_false (by omega)
            obtain ⟨e1, e2, e3⟩ := HSTEP.out h0
            have HE1 := hid e1
            have HWR := hid (show IntKind.i64.wrap (t + a.k) = t + a.k from IntWalk.i64_in _ (by omega))
            have HFND : Hid (Fnd s.up n s.now (PF L) a t ∧ l = (openL n (PF L) (intL (plcN s.up a.pl)) t (t + a.k) a.v).take a.m.toNat) := hid (by
              have h1 := slt_found (up := s.up) (n := n) (now := s.now) (F := PF L) (a := a) (by rw [HLS.out, ← HT.out]; exact h0)
              rw [HLS.out, ← HT.out, ← HLL.out] at h1
              exact h1)
            have Pm : Hid (PL wa q sv n ps (wsF s.xs) (PF (L + 1))) := hid (by
              have h1 := Pa.out
              rw [HMS.out] at h1
              exact h1)
            have KG0 := give_all2 q sv n ps (wsF s.xs) (PF (L + 1)) GA gcap (intL l) t (t + a.k) a.v wa.drew (Pm.out.keep (Below.drew (Below.refl _ _))) (((HR3.out _ HGa.out).2.2).keep (Below.drew (Below.refl _ _))) (by rw [intL_len]; omega) (by rw [intL_len]; exact hgc) HAP.out
            rw [intL_len] at KG0
            have KG := hid KG0
            clear KG0 h0 e1
            go_wp2_with fail
            go_region_held3 (fun w' => w'.cell? ⟨br, L * 3 + 1, none⟩ = some (.int .i64 t) ∧ w'.cell? ⟨br, L * 3 + 2, none⟩ = some (.slice GA l.length gcap) ∧ w'.cell? ⟨wr.heap.size, 3, none⟩ = some (.int .i64 a.v.a) ∧ w'.cell? ⟨wr.heap.size, 4, none⟩ = some (.int .i64 a.v.b) ∧ w'.cell? ⟨wr.heap.size, 5, none⟩ = some (.int .i64 a.v.c) ∧ w'.cell? ⟨wr.heap.size, 6, none⟩ = some (.int .i64 a.v.d) ∧ w'.cell? ⟨wr.heap.size, 7, none⟩ = some (.int .i64 a.k)) (first | exact ⟨r1, r2, y3, y4, y5, y6, y7⟩ | exact ⟨q1, q2, z3, z4, z5, z6, z7⟩ | go_keep)
              (first | (go_at_call 20; (try rw [HWR.out]); (refine KG.out.mono ?_); rintro _ wb ⟨⟨ge, rfl⟩, hp, hf⟩; have Pb := hid (show PL wb q sv n ps (wsF s.xs) (PF L) from by rw [← HE1.out]; exact hp); have HGb := hid (FrP.below (Below.drew HGa.out) hf HPS.out); have Yb := hid (frp_keepT (Pm.out.keep (Below.drew (Below.refl _ _))) hf (heapD Ya.out) (by decide)); obtain ⟨q1, q2, _⟩ := HR3.out _ HGb.out; obtain ⟨_, _, _, z3, z4, z5, z6, z7, _, _⟩ := ten Yb.out; clear hp hf))
            have Xb := hid (keep0 HGb.out X3.out)
            have gb := hid (g3.out.trans (HGb.out.mono g3.out.size))
            have HIb : Hid (a.In wb) := hid (by
              obtain ⟨a2, ha2⟩ : ∃ a2, s.ks[L]? = some a2 := ⟨_, List.getElem?_eq_getElem (by have := HL.out; omega)⟩
              obtain ⟨h1, _⟩ := (HS.out.k.keep gb.out).at ha2
              have h2 := HA2.out
              rw [h2] at ha2
              cases ha2
              exact h1.keep gb.out)
            clear x0 xu xn x3 x4 y0 y1 y2 y3 y4 y5 y6 y7 y8 y9 z3 z4 z5 z6 z7 r1 r2 KG
            obtain ⟨x0, xu, xn, x3, x4⟩ := five Xb.out
            obtain ⟨y0, y1, y2, y3, y4, y5, y6, y7, y8, y9⟩ := ten Yb.out
            have KPl := hid (fun w6 (hb : Below wb.heap.size wb w6) => rplaces_any s.U s.ucap s.up a w6 (HS.out.u.keep (gb.out.trans (hb.mono gb.out.size))) (by omega) (HIb.out.p.keep hb) HIb.out.pl)
            have KFi : Hid (∀ PA pcap w6, Below wb.heap.size wb w6 → Ns w6 PA (intL (plcN s.up a.pl)) → Calls Try.prog 18 #[.pointer (some ⟨q, 0, none⟩), .slice PA (intL (plcN s.up a.pl)).length pcap, .int .i64 a.m, .agg #[.int .i64 a.v.a, .int .i64 a.v.b, .int .i64 a.v.c, .int .i64 a.v.d], .int .i64 a.k, .int .i64 s.now] w6 fun e w' => ∃ ft fv fb, e = .returned (.tuple #[.int .i64 ft, fv, .bool fb]) ∧ Below w6.heap.size w6 w' ∧ Hid ((fb = true ∧ FindOk n (PF L) (intL (plcN s.up a.pl)) a.v s.now a.k a.m ft ∧ w'.ownsRow w6.heap.size 3 1 fv a.m.toNat (nums ((openL n (PF L) (intL (plcN s.up a.pl)) ft (ft + a.k) a.v).take a.m.toNat))) ∨ (fb = false ∧ ∀ t, ¬ FindOk n (PF L) (intL (plcN s.up a.pl)) a.v s.now a.k a.m t))) := hid fun PA pcap w6 hb hn => Calls.mono (find_all q sv n ps (wsF s.xs) (PF L) PA pcap (intL (plcN s.up a.pl)) a.m a.k s.now a.v w6 (Pb.out.keep hb) hn (by rw [intL_len]; have := plK_le s.up a.pl s.up.length; show (plK s.up a.pl s.up.length).length ≤ _; omega) HIb.out.k.2 HS.out.n.2) (by
              rintro e w' ⟨hb, ⟨t, v', rfl, h1, h2⟩ | ⟨rfl, h1⟩⟩
              · exact ⟨t, v', true, rfl, hb, hid (.inl ⟨rfl, h1, h2⟩)⟩
              · exact ⟨0, _, false, rfl, hb, hid (.inr ⟨rfl, h1⟩)⟩)
            have HXF := hid (fun w6 (hb : Below wb.heap.size wb w6) => And.intro (keep0 hb Yb.out) (keep0 hb Xb.out))
            go_wp2_with fail
            go_region_held3 (fun w' => w'.cell? ⟨wr.heap.size, 0, none⟩ = some (.int .i64 a.id) ∧ w'.cell? ⟨wr.heap.size, 1, none⟩ = some (.slice a.A a.pl.length a.cap) ∧ w'.cell? ⟨wr.heap.size, 2, none⟩ = some (.int .i64 a.m) ∧ w'.cell? ⟨wr.heap.size, 3, none⟩ = some (.int .i64 a.v.a) ∧ w'.cell? ⟨wr.heap.size, 4, none⟩ = some (.int .i64 a.v.b) ∧ w'.cell? ⟨wr.heap.size, 5, none⟩ = some (.int .i64 a.v.c) ∧ w'.cell? ⟨wr.heap.size, 6, none⟩ = some (.int .i64 a.v.d) ∧ w'.cell? ⟨wr.heap.size, 7, none⟩ = some (.int .i64 a.k) ∧ w'.cell? ⟨wr.heap.size, 8, none⟩ = some (.int .i64 a.s) ∧ w'.cell? ⟨wr.heap.size, 9, none⟩ = some (.slice a.G a.g.length a.gc) ∧ w'.cell? ⟨W.heap.size, 1, none⟩ = some (.slice s.U s.up.length s.ucap) ∧ w'.cell? ⟨W.heap.size, 2, none⟩ = some (.int .i64 s.now)) (first | exact ⟨y0, y1, y2, y3, y4, y5, y6, y7, y8, y9, xu, xn⟩ | exact ⟨z0, z1, z2, z3, z4, z5, z6, z7, z8, z9, zu, zn⟩ | exact ⟨v0, v1, v2', v3, v4, v5, v6, v7, v8, v9, vu, vn⟩ | go_keep)
              (first
                | (go_at_call 19; (refine (KPl.out _ (Below.drew (Below.refl _ _))).mono ?_); rintro _ w6 ⟨pv, rfl, ho, hb⟩; obtain ⟨PA, pcap, rfl, hpn⟩ := own_ns2 ho; have G6 := hid (show Below wb.heap.size wb w6 from unD hb); have N6 := hid hpn; obtain ⟨hq1, hq2⟩ := HXF.out _ G6.out; obtain ⟨z0, z1, z2, z3, z4, z5, z6, z7, z8, z9⟩ := ten hq1; obtain ⟨_, zu, zn, _, _⟩ := five hq2; clear ho hb hpn hq1 hq2)
                | (go_at_call 18; (refine (KFi.out PA pcap _ G6.out N6.out).mono ?_); rintro _ w7 ⟨ft, fv, fb, rfl, hb, HFR⟩; have G7 := hid (G6.out.trans (hb.mono G6.out.size)); obtain ⟨hq1, hq2⟩ := HXF.out _ G7.out; obtain ⟨v0, v1, v2', v3, v4, v5, v6, v7, v8, v9⟩ := ten hq1; obtain ⟨_, vu, vn, _, _⟩ := five hq2; clear hb hq1 hq2))
            have HUQ := hid (show ∀ u, FindOk n (PF L) (intL (plcN s.up a.pl)) a.v s.now a.k a.m u → u = t from fun u hu => hu.2.2.2.uniq HFND.out.1.2.2.2.2)
            rcases HFR.out with ⟨rfl, hok, ho⟩ | ⟨_, hno⟩
            rotate_left
            · exact absurd HFND.out.1.2 (hno t)
            obtain rfl : ft = t := HUQ.out ft hok
            rw [← HFND.out.2] at ho
            have hlm : a.m.toNat = l.length := by
              rw [HFND.out.2, List.length_take]
              have := hok.2.2.2.2.2.1
              omega
            obtain ⟨FA, fcap, -, rfl, _, hfn, _, _⟩ := own_gang ho hlm (Pb.out.keep G7.out)
            have HG7 := hid (HGb.out.trans (G7.out.mono HGb.out.size))
            have g7 := hid (gb.out.trans (G7.out.mono gb.out.size))
            obtain ⟨s1, s2, s3⟩ := HR3.out _ HG7.out
            have KSm0 := same_ints FA GA fcap gcap (intL l) w7 hfn s3 (by rw [intL_len]; omega)
            rw [intL_len] at KSm0
            have KSm := hid KSm0
            have hbt : (ft == ft) = true := by simp
            clear KSm0 HFR hok ho hlm hfn s3 q1 q2 x0 xu xn x3 x4 y0 y1 y2 y3 y4 y5 y6 y7 y8 y9
            go_wp2_with (go_at_call 21; (with_reducible refine KSm.out.mono ?_); rintro _ w8 ⟨rfl, hb⟩; have g8 := hid (below_step g7.out g7.out.size hb); clear hb)
            go_returns
            exact ⟨rfl, g8.out⟩
end Go.Proofs.Ythkofnahimlijaa
