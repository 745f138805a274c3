/- The Go function PlanKeeps, called with any arguments, returns true and leaves all that was there. Condition: none. -/
import Derived.Test.YthkofnahimlijaaPlanE
import Derived.Test.YthkofnahimlijaaRows
namespace Go.Proofs.Ythkofnahimlijaa
open Go Go.ChangeShapes Go.WideShapes Go.RowKit
set_option maxRecDepth 100000 in
set_option maxHeartbeats 4000000 in
theorem planKeeps_walk {H : Type} {enc : TypeId × Value → H} (W : World) (base : Nat) (args : Array Value) (ds : List (DataW H))
    (hval : ∀ (j : Nat) t v, Try.f5.params[j]? = some t → args[j]? = some v → Value.okWide Try.prog W .any base t v)
    (hA : ∃ p, DataW.TrodAll enc Try.prog W 0 (fun _ => true) true Try.f5.params.toList args.toList ds p) 
    (_ : (DataW.weightsEach Try.prog (Try.f5.params.toList ++ (OpenSpec.ofChange Rows.planKeepsSpec).bare.plain.varTypes Try.prog) (ds ++ [])).all (· ≤ reachBytes) = true)
    (_ : laidMetH Try.prog Rows.planKeepsRow.laid W) (_ : W.ShapedOpen Try.prog) :
    Calls Try.prog 5 args W fun e W' => e = .returned (.bool true) ∧ Below W.heap.size W W' := by
  obtain ⟨p, hA⟩ := hA
  rw [Try.params5] at hA hval
  obtain ⟨v0, v1, d0, d1, p0, p1, hargs, rfl, rfl, h0, h1⟩ := trodAll_two hA
  subst hargs
  obtain ⟨s, rfl, hs⟩ := scene_is (hval 0 27 v0 rfl rfl) h0
  obtain ⟨l, rfl, hl⟩ := later_is (hval 1 44 v1 rfl rfl) h1
  have HS := hid hs
  have HI := hid hl
  have KA := hid awake_any
  have X0 := hid (heapA (o := (.cells #[.int .i64 l.ticks, .slice l.A l.es.length l.cap, .int .i64 l.goes, .int .i64 l.c.id, .slice l.c.A l.c.pl.length l.c.cap, .int .i64 l.c.m, .int .i64 l.c.v.a, .int .i64 l.c.v.b, .int .i64 l.c.v.c, .int .i64 l.c.v.d, .int .i64 l.c.k, .int .i64 l.c.s, .slice l.c.G l.c.g.length l.c.gc, .int .i64 l.at_, .int .i64 l.turn] 44)) (heap_new W (.cells #[.slice s.A s.xs.length s.cap, .slice s.U s.up.length s.ucap, .int .i64 s.now, .slice s.H s.hs.length s.hcap, .slice s.K s.ks.length s.kcap] 27)))
  have Y0 := hid (heap_newS (w := W.alloc (.cells #[.slice s.A s.xs.length s.cap, .slice s.U s.up.length s.ucap, .int .i64 s.now, .slice s.H s.hs.length s.hcap, .slice s.K s.ks.length s.kcap] 27)) (o := (.cells #[.int .i64 l.ticks, .slice l.A l.es.length l.cap, .int .i64 l.goes, .int .i64 l.c.id, .slice l.c.A l.c.pl.length l.c.cap, .int .i64 l.c.m, .int .i64 l.c.v.a, .int .i64 l.c.v.b, .int .i64 l.c.v.c, .int .i64 l.c.v.d, .int .i64 l.c.k, .int .i64 l.c.s, .slice l.c.G l.c.g.length l.c.gc, .int .i64 l.at_, .int .i64 l.turn] 44)) (n := W.heap.size + 1) (by simp))
  have g0 := hid (show Below W.heap.size W ((W.alloc (.cells #[.slice s.A s.xs.length s.cap, .slice s.U s.up.length s.ucap, .int .i64 s.now, .slice s.H s.hs.length s.hcap, .slice s.K s.ks.length s.kcap] 27)).alloc (.cells #[.int .i64 l.ticks, .slice l.A l.es.length l.cap, .int .i64 l.goes, .int .i64 l.c.id, .slice l.c.A l.c.pl.length l.c.cap, .int .i64 l.c.m, .int .i64 l.c.v.a, .int .i64 l.c.v.b, .int .i64 l.c.v.c, .int .i64 l.c.v.d, .int .i64 l.c.k, .int .i64 l.c.s, .slice l.c.G l.c.g.length l.c.gc, .int .i64 l.at_, .int .i64 l.turn] 44)) from by go_grown)
  clear h0 h1 hval hA hs hl
  go_enter Try.func5, Try.ntmps5
  go_wp2_with fail
  refine (KA.out _).mono ?_
  rintro _ w1 ⟨rfl, hb⟩
  have X1 := hid (keep0 hb X0.out)
  have Y1 := hid (keep0 hb Y0.out)
  have g1 := hid (below_step g0.out g0.out.size hb)
  clear hb KA
  have KF := hid (few_any W s w1 HS.out g1.out)
  obtain ⟨x0, x1, x2, x3, x4⟩ := five X1.out
  go_wp2_with fail
  with_reducible refine KF.out.mono ?_
  rintro _ w2 ⟨ok, rfl, hok, hb⟩
  have X2 := hid (keep0 hb X1.out)
  have Y2 := hid (keep0 hb Y1.out)
  have g2 := hid (below_step g1.out g1.out.size hb)
  have HOK := hid hok
  clear hb KF hok x0 x1 x2 x3 x4
  obtain ⟨x0, x1, x2, x3, x4⟩ := five X2.out
  have y0 : w2.cell? ⟨W.heap.size + 1, 0, none⟩ = some (.int .i64 l.ticks) := (cell_of Y2.out 0).trans rfl
  have y1 : w2.cell? ⟨W.heap.size + 1, 1, none⟩ = some (.slice l.A l.es.length l.cap) := (cell_of Y2.out 1).trans rfl
  have y2 : w2.cell? ⟨W.heap.size + 1, 2, none⟩ = some (.int .i64 l.goes) := (cell_of Y2.out 2).trans rfl
  have y3 : w2.cell? ⟨W.heap.size + 1, 3, none⟩ = some (.int .i64 l.c.id) := (cell_of Y2.out 3).trans rfl
  have y4 : w2.cell? ⟨W.heap.size + 1, 4, none⟩ = some (.slice l.c.A l.c.pl.length l.c.cap) := (cell_of Y2.out 4).trans rfl
  have y5 : w2.cell? ⟨W.heap.size + 1, 5, none⟩ = some (.int .i64 l.c.m) := (cell_of Y2.out 5).trans rfl
  have y6 : w2.cell? ⟨W.heap.size + 1, 6, none⟩ = some (.int .i64 l.c.v.a) := (cell_of Y2.out 6).trans rfl
  have y7 : w2.cell? ⟨W.heap.size + 1, 7, none⟩ = some (.int .i64 l.c.v.b) := (cell_of Y2.out 7).trans rfl
  have y8 : w2.cell? ⟨W.heap.size + 1, 8, none⟩ = some (.int .i64 l.c.v.c) := (cell_of Y2.out 8).trans rfl
  have y9 : w2.cell? ⟨W.heap.size + 1, 9, none⟩ = some (.int .i64 l.c.v.d) := (cell_of Y2.out 9).trans rfl
  have y10 : w2.cell? ⟨W.heap.size + 1, 10, none⟩ = some (.int .i64 l.c.k) := (cell_of Y2.out 10).trans rfl
  have y11 : w2.cell? ⟨W.heap.size + 1, 11, none⟩ = some (.int .i64 l.c.s) := (cell_of Y2.out 11).trans rfl
  have y12 : w2.cell? ⟨W.heap.size + 1, 12, none⟩ = some (.slice l.c.G l.c.g.length l.c.gc) := (cell_of Y2.out 12).trans rfl
  have y13 : w2.cell? ⟨W.heap.size + 1, 13, none⟩ = some (.int .i64 l.at_) := (cell_of Y2.out 13).trans rfl
  have y14 : w2.cell? ⟨W.heap.size + 1, 14, none⟩ = some (.int .i64 l.turn) := (cell_of Y2.out 14).trans rfl
  cases ok with
  | false =>
    go_wp2_with fail
    go_returns
    exact ⟨rfl, g2.out⟩
  | true =>
  obtain ⟨kx, ku, kh, kk, khs, kks⟩ := HOK.out rfl
  by_cases ka : (20 : Int) < (l.es.length : Int)
  · have d1 : decide ((20 : Int) < (l.es.length : Int)) = true := decide_eq_true ka
    clear ka
    go_wp2_with fail
    go_returns
    exact ⟨rfl, g2.out⟩
  have d1 : decide ((20 : Int) < (l.es.length : Int)) = false := decide_eq_false ka
  by_cases kb : (30 : Int) < (l.c.pl.length : Int)
  · have d2 : decide ((30 : Int) < (l.c.pl.length : Int)) = true := decide_eq_true kb
    clear ka kb
    go_wp2_with fail
    go_returns
    exact ⟨rfl, g2.out⟩
  have d2 : decide ((30 : Int) < (l.c.pl.length : Int)) = false := decide_eq_false kb
  by_cases kc : (20 : Int) < (l.c.g.length : Int)
  · have d3 : decide ((20 : Int) < (l.c.g.length : Int)) = true := decide_eq_true kc
    clear ka kb kc
    go_wp2_with fail
    go_returns
    exact ⟨rfl, g2.out⟩
  have d3 : decide ((20 : Int) < (l.c.g.length : Int)) = false := decide_eq_false kc
  have KP := hid (scene_pass s w2 (HS.out.keep g2.out) ku (by omega))
  obtain ⟨E, hE⟩ : ∃ E, E = opnE s.xs s.up s.now (hdF s.hs) s.hs.length := ⟨_, rfl⟩
  have HE := hid hE
  unfold PassOut at KP
  rw [← hE] at KP
  clear hE ka kb kc
  go_wp2_with fail
  with_reducible refine KP.out.mono ?_
  rintro _ w3 ⟨sa, m, rfl, hb, hrow⟩
  have X3 := hid (keep0 hb X2.out)
  have Y3 := hid (keep0 hb Y2.out)
  have g3 := hid (below_step g2.out g2.out.size hb)
  have R3 := hid hrow
  clear hb hrow KP x0 x1 x2 x3 x4 d1 d2 d3
  clear y0 y1 y2 y3 y4 y5 y6 y7 y8 y9 y10 y11 y12 y13 y14
  by_cases he : E = 0
  rotate_left
  · have d1 : (E != 0) = true := by simpa using he
    have d2 : (E == 0) = false := by simpa using he
    clear he
    go_wp2_with fail
    go_returns
    exact ⟨rfl, g3.out⟩
  subst he
  obtain ⟨N, hN⟩ : ∃ N, N = s.ks.length := ⟨_, rfl⟩
  obtain rfl : m = N := by
    rcases R3.out with ⟨h, _⟩ | ⟨_, h, _⟩
    · exact absurd rfl h
    · rw [hN, h]
  have HN := hid hN
  have hE := HE.out.symm
  have HEZ := hid hE
  obtain ⟨w1z, w2z, hn0, hn1, _⟩ := opnE_zero hE
  obtain ⟨x0, x1, x2, x3, x4⟩ := five X3.out
  have y0 : w3.cell? ⟨W.heap.size + 1, 0, none⟩ = some (.int .i64 l.ticks) := (cell_of Y3.out 0).trans rfl
  have y1 : w3.cell? ⟨W.heap.size + 1, 1, none⟩ = some (.slice l.A l.es.length l.cap) := (cell_of Y3.out 1).trans rfl
  have y2 : w3.cell? ⟨W.heap.size + 1, 2, none⟩ = some (.int .i64 l.goes) := (cell_of Y3.out 2).trans rfl
  have y3 : w3.cell? ⟨W.heap.size + 1, 3, none⟩ = some (.int .i64 l.c.id) := (cell_of Y3.out 3).trans rfl
  have y4 : w3.cell? ⟨W.heap.size + 1, 4, none⟩ = some (.slice l.c.A l.c.pl.length l.c.cap) := (cell_of Y3.out 4).trans rfl
  have y5 : w3.cell? ⟨W.heap.size + 1, 5, none⟩ = some (.int .i64 l.c.m) := (cell_of Y3.out 5).trans rfl
  have y6 : w3.cell? ⟨W.heap.size + 1, 6, none⟩ = some (.int .i64 l.c.v.a) := (cell_of Y3.out 6).trans rfl
  have y7 : w3.cell? ⟨W.heap.size + 1, 7, none⟩ = some (.int .i64 l.c.v.b) := (cell_of Y3.out 7).trans rfl
  have y8 : w3.cell? ⟨W.heap.size + 1, 8, none⟩ = some (.int .i64 l.c.v.c) := (cell_of Y3.out 8).trans rfl
  have y9 : w3.cell? ⟨W.heap.size + 1, 9, none⟩ = some (.int .i64 l.c.v.d) := (cell_of Y3.out 9).trans rfl
  have y10 : w3.cell? ⟨W.heap.size + 1, 10, none⟩ = some (.int .i64 l.c.k) := (cell_of Y3.out 10).trans rfl
  have y11 : w3.cell? ⟨W.heap.size + 1, 11, none⟩ = some (.int .i64 l.c.s) := (cell_of Y3.out 11).trans rfl
  have y12 : w3.cell? ⟨W.heap.size + 1, 12, none⟩ = some (.slice l.c.G l.c.g.length l.c.gc) := (cell_of Y3.out 12).trans rfl
  have y13 : w3.cell? ⟨W.heap.size + 1, 13, none⟩ = some (.int .i64 l.at_) := (cell_of Y3.out 13).trans rfl
  have y14 : w3.cell? ⟨W.heap.size + 1, 14, none⟩ = some (.int .i64 l.turn) := (cell_of Y3.out 14).trans rfl
  rw [← hN] at x4
  have kk2 : m ≤ 10 := by omega
  obtain ⟨q, hq, hq0, hq1⟩ : ∃ q, bits .and .i64 l.ticks 15 = q ∧ 0 ≤ q ∧ q ≤ 15 := ⟨_, rfl, and_15.1, and_15.2⟩
  obtain ⟨S, hSS⟩ : ∃ S, S = passS s.xs s.up s.now s.hs s.ks := ⟨_, rfl⟩
  have HSS := hid hSS
  rw [← hSS] at R3
  have HST := hid (show ∀ j, i64 (S j).t ∧ (0 ≤ (S j).t → s.now ≤ (S j).t) ∧ (S j).l.length ≤ 16 from fun j => by rw [HSS.out]; exact pass_t HEZ.out j)
  have db : ((m : Int) != (m : Int)) = false := by simp
  have KM := hid (mixed_any W w2 s l sa m S w3 HS.out HI.out g3.out kk (by have := R3.out; rw [← HN.out] at this ⊢; exact this) HN.out (fun j => (HST.out j).1) (fun j => (HST.out j).2.2))
  rw [← hN] at R3 KM
  clear hE hN hSS w1z w2z kk kx khs kks HOK
  go_wp2_with fail
  go_loop [9, 10] (fun o x => ∃ (k : Nat) (least : Int), k ≤ m ∧ x = .int .i64 k ∧ o = .int .i64 least ∧ s.now ≤ least ∧ least ≤ s.now + 15 ∧ ∀ j, j < k → 0 ≤ (S j).t → least ≤ (S j).t) (fun _ x => m - (intOf x).toNat)
  case atStart => exact ⟨0, _, Nat.zero_le _, rfl, rfl, by omega, by omega, fun j hj => by omega⟩
  case round =>
    obtain ⟨k, least, hk, rfl, rfl, hl0, hl1, hr⟩ := hrel
    have HR := hid hr
    clear hr db
    by_cases hlt : k < m
    · have hlt' : (k : Int) < (m : Int) := by omega
      obtain ⟨br, GA, gcap, rfl, hbr, _, r1, _⟩ := R3.out.at hlt
      obtain ⟨t, ht⟩ : ∃ t, t = (S k).t := ⟨_, rfl⟩
      have HT := hid ht
      rw [← ht] at r1
      have hge := (HST.out k).2.1
      have hti := (HST.out k).1
      rw [← ht] at hge hti
      clear ht
      unfold i64 at hti
      by_cases ht0 : 0 ≤ t
      · have hge' := hge ht0
        have dt : decide (0 ≤ t) = true := decide_eq_true ht0
        clear hge
        go_wp2_with fail
        go_round
        case rel =>
          refine ⟨k + 1, _, by omega, by go_num, rfl, by omega, by omega, fun j hj h0 => ?_⟩
          rcases Nat.lt_or_ge j k with h | h
          · have := HR.out j h h0
            omega
          · obtain rfl : j = k := by omega
            rw [← HT.out]
            omega
        case measure => simp [intOf]; omega
      · have dt : decide (0 ≤ t) = false := decide_eq_false ht0
        clear hge
        go_wp2_with fail
        go_round
        case rel =>
          refine ⟨k + 1, least, by omega, by go_num, rfl, by omega, by omega, fun j hj h0 => ?_⟩
          rcases Nat.lt_or_ge j k with h | h
          · exact HR.out j h h0
          · obtain rfl : j = k := by omega
            rw [← HT.out] at h0
            exact absurd h0 ht0
        case measure => simp [intOf]; omega
    · obtain rfl : m = k := by omega
      have HL := HR
      by_cases hmx : 1099511627776 ≤ least
      · have dt : decide (1099511627776 ≤ least) = true := decide_eq_true hmx
        clear hmx
        go_wp2_with fail
        go_returns
        exact ⟨rfl, g3.out⟩
      have dt : decide (1099511627776 ≤ least) = false := decide_eq_false hmx
      have hmx' : least < 1099511627776 := by omega
      clear hmx
      go_wp2_with fail
      with_reducible refine KM.out.mono ?_
      rintro _ w4 ⟨v4, P, Q, R, A, rfl, hpm, hAl, hAg, ho, hb⟩
      have X4 := hid (keep0 hb X3.out)
      have Y4 := hid (keep0 hb Y3.out)
      have R4 := hid (R3.out.keep hb)
      have g4 := hid (below_step g3.out g3.out.size hb)
      obtain ⟨B, hB⟩ : ∃ B, B = P ++ { l.c with s := -1, G := none, gc := 0, g := [] } :: Q := ⟨_, rfl⟩
      have hBin := mix_in hAg hpm (HI.out.c.keep g4.out)
      have HL2 := hid (show ∀ j, j < s.ks.length → 0 ≤ (passS s.xs s.up s.now s.hs s.ks j).t → least ≤ (passS s.xs s.up s.now s.hs s.ks j).t from by
        have := HL.out
        rw [HSS.out, HN.out] at this
        exact this)
      have HPO := hid (show ∀ hs2, Ed s.now least s.hs hs2 → _ from fun hs2 hEd => put_off HEZ.out (ag_prom (HSS.out ▸ hAg) hAl) hB rfl hpm hl0 HL2.out (by omega) hEd)
      have hBl : B.length ≤ 11 := by
        have h1 := hpm.length_eq
        have h2 := HN.out
        rw [hB]
        simp only [List.length_append, List.length_cons] at h1 ⊢
        omega
      have HAT := hid (show ∀ (j : Nat) a, B[j]? = some a → j = P.length → a.s = -1 from fun j a hj e => by
        rw [hB, e, List.getElem?_append_right (Nat.le_refl _), Nat.sub_self] at hj
        cases hj
        rfl)
      rw [← hB] at ho hBin
      obtain ⟨pa, hpa⟩ : ∃ pa, pa = P.length := ⟨_, rfl⟩
      rw [← hpa] at HAT ⊢
      obtain ⟨MA, mcap, rfl, haks⟩ := own_aks ho hBin
      have HK4 := hid haks
      obtain ⟨n2, hn2⟩ : ∃ n2, n2 = B.length := ⟨_, rfl⟩
      have HN2 := hid hn2
      have KE := hid (fun w6 (hb : Below w4.heap.size w4 w6) => ended_any W s l least w6 HS.out HI.out (g4.out.trans (hb.mono g4.out.size)) kh hn1)
      rw [← HN.out] at KE
      have KP2 := hid (show ∀ HA2 hcap2 hs2 w6, Below w4.heap.size w4 w6 → Hds w6 w6 HA2 hs2 → hs2.length ≤ s.hs.length → Ed s.now least s.hs hs2 → Calls Try.prog 12 #[.slice s.A s.xs.length s.cap, .slice s.U s.up.length s.ucap, .int .i64 least, .slice HA2 hs2.length hcap2, .slice MA n2 mcap] w6 (fun e w' => ∃ sa2, e = .returned (.tuple #[.slice sa2 n2 n2, .int .i64 0]) ∧ Below w6.heap.size w6 w' ∧ OutRow w6 w' sa2 n2 0 n2 (passS s.xs s.up least hs2 B)) from by
        intro HA2 hcap2 hs2 w6 hb6 hh2 hl2 hEd
        have gW := g4.out.trans (hb6.mono g4.out.size)
        have h0 := scene_pass { s with now := least, H := HA2, hcap := hcap2, hs := hs2, K := MA, kcap := mcap, ks := B } w6 ⟨(HS.out.keep gW).x, HS.out.xl, (HS.out.keep gW).u, HS.out.ul, by show i64 least; unfold i64; omega, hh2, by show hs2.length ≤ _; omega, RowOf.of_in2 (HK4.out.keep hb6) (fun _ h1 => h1.keep hb6), by show B.length ≤ _; omega⟩ ku hBl
        rw [HN2.out]
        refine h0.mono ?_
        rintro e w' ⟨sa2, m2, rfl, h1, h2⟩
        have h3 := (HPO.out hs2 hEd).1
        change OutRow w6 w' sa2 m2 (opnE s.xs s.up least (hdF hs2) hs2.length) B.length (passS s.xs s.up least hs2 B) at h2
        have hm2 : m2 = B.length := by
          rcases h2 with ⟨h, _⟩ | ⟨_, h, _⟩
          · exact absurd h3 h
          · exact h
        subst hm2
        rw [h3] at h2
        refine ⟨sa2, ?_, h1, h2⟩
        show Ending.returned (.tuple #[.slice sa2 B.length B.length, .int .i64 (opnE s.xs s.up least (hdF hs2) hs2.length)]) = _
        rw [h3])
      rw [← hn2]
      have hn2l : n2 ≤ 11 := by omega
      clear hb hpm hAl hAg ho hB hBin hpa haks hn2 hBl KM dt x0 x1 x2 x3 x4
      clear y0 y1 y2 y3 y4 y5 y6 y7 y8 y9 y10 y11 y12 y13 y14
      obtain ⟨x0, x1, x2, x3, x4⟩ := five X4.out
      rw [← HN.out] at x4
      have y0 : w4.cell? ⟨W.heap.size + 1, 0, none⟩ = some (.int .i64 l.ticks) := (cell_of Y4.out 0).trans rfl
      have y1 : w4.cell? ⟨W.heap.size + 1, 1, none⟩ = some (.slice l.A l.es.length l.cap) := (cell_of Y4.out 1).trans rfl
      have y2 : w4.cell? ⟨W.heap.size + 1, 2, none⟩ = some (.int .i64 l.goes) := (cell_of Y4.out 2).trans rfl
      have y3 : w4.cell? ⟨W.heap.size + 1, 3, none⟩ = some (.int .i64 l.c.id) := (cell_of Y4.out 3).trans rfl
      have y4 : w4.cell? ⟨W.heap.size + 1, 4, none⟩ = some (.slice l.c.A l.c.pl.length l.c.cap) := (cell_of Y4.out 4).trans rfl
      have y5 : w4.cell? ⟨W.heap.size + 1, 5, none⟩ = some (.int .i64 l.c.m) := (cell_of Y4.out 5).trans rfl
      have y6 : w4.cell? ⟨W.heap.size + 1, 6, none⟩ = some (.int .i64 l.c.v.a) := (cell_of Y4.out 6).trans rfl
      have y7 : w4.cell? ⟨W.heap.size + 1, 7, none⟩ = some (.int .i64 l.c.v.b) := (cell_of Y4.out 7).trans rfl
      have y8 : w4.cell? ⟨W.heap.size + 1, 8, none⟩ = some (.int .i64 l.c.v.c) := (cell_of Y4.out 8).trans rfl
      have y9 : w4.cell? ⟨W.heap.size + 1, 9, none⟩ = some (.int .i64 l.c.v.d) := (cell_of Y4.out 9).trans rfl
      have y10 : w4.cell? ⟨W.heap.size + 1, 10, none⟩ = some (.int .i64 l.c.k) := (cell_of Y4.out 10).trans rfl
      have y11 : w4.cell? ⟨W.heap.size + 1, 11, none⟩ = some (.int .i64 l.c.s) := (cell_of Y4.out 11).trans rfl
      have y12 : w4.cell? ⟨W.heap.size + 1, 12, none⟩ = some (.slice l.c.G l.c.g.length l.c.gc) := (cell_of Y4.out 12).trans rfl
      have y13 : w4.cell? ⟨W.heap.size + 1, 13, none⟩ = some (.int .i64 l.at_) := (cell_of Y4.out 13).trans rfl
      have y14 : w4.cell? ⟨W.heap.size + 1, 14, none⟩ = some (.int .i64 l.turn) := (cell_of Y4.out 14).trans rfl
      have XM := hid (show w4.heap[W.heap.size]? = some (.cells #[.slice s.A s.xs.length s.cap, .slice s.U s.up.length s.ucap, .int .i64 s.now, .slice s.H s.hs.length s.hcap, .slice s.K m s.kcap] 27 (0, 0)) from by rw [HN.out]; exact X4.out)
      have HKP := hid (show ∀ w', Below w4.heap.size w4 w' → w'.cell? ⟨W.heap.size, 0, none⟩ = some (.slice s.A s.xs.length s.cap) ∧ w'.cell? ⟨W.heap.size, 1, none⟩ = some (.slice s.U s.up.length s.ucap) ∧ w'.cell? ⟨W.heap.size, 2, none⟩ = some (.int .i64 s.now) ∧ w'.cell? ⟨W.heap.size, 3, none⟩ = some (.slice s.H s.hs.length s.hcap) ∧ w'.cell? ⟨W.heap.size, 4, none⟩ = some (.slice s.K m s.kcap) ∧ w'.cell? ⟨W.heap.size + 1, 0, none⟩ = some (.int .i64 l.ticks) ∧ w'.cell? ⟨W.heap.size + 1, 1, none⟩ = some (.slice l.A l.es.length l.cap) ∧ w'.cell? ⟨W.heap.size + 1, 2, none⟩ = some (.int .i64 l.goes) ∧ w'.cell? ⟨W.heap.size + 1, 3, none⟩ = some (.int .i64 l.c.id) ∧ w'.cell? ⟨W.heap.size + 1, 4, none⟩ = some (.slice l.c.A l.c.pl.length l.c.cap) ∧ w'.cell? ⟨W.heap.size + 1, 5, none⟩ = some (.int .i64 l.c.m) ∧ w'.cell? ⟨W.heap.size + 1, 6, none⟩ = some (.int .i64 l.c.v.a) ∧ w'.cell? ⟨W.heap.size + 1, 7, none⟩ = some (.int .i64 l.c.v.b) ∧ w'.cell? ⟨W.heap.size + 1, 8, none⟩ = some (.int .i64 l.c.v.c) ∧ w'.cell? ⟨W.heap.size + 1, 9, none⟩ = some (.int .i64 l.c.v.d) ∧ w'.cell? ⟨W.heap.size + 1, 10, none⟩ = some (.int .i64 l.c.k) ∧ w'.cell? ⟨W.heap.size + 1, 11, none⟩ = some (.int .i64 l.c.s) ∧ w'.cell? ⟨W.heap.size + 1, 12, none⟩ = some (.slice l.c.G l.c.g.length l.c.gc) ∧ w'.cell? ⟨W.heap.size + 1, 13, none⟩ = some (.int .i64 l.at_) ∧ w'.cell? ⟨W.heap.size + 1, 14, none⟩ = some (.int .i64 l.turn) from fun w' hb => ⟨(cell_of (keep0 hb XM.out) 0).trans rfl, (cell_of (keep0 hb XM.out) 1).trans rfl, (cell_of (keep0 hb XM.out) 2).trans rfl, (cell_of (keep0 hb XM.out) 3).trans rfl, (cell_of (keep0 hb XM.out) 4).trans rfl, (cell_of (keep0 hb Y4.out) 0).trans rfl, (cell_of (keep0 hb Y4.out) 1).trans rfl, (cell_of (keep0 hb Y4.out) 2).trans rfl, (cell_of (keep0 hb Y4.out) 3).trans rfl, (cell_of (keep0 hb Y4.out) 4).trans rfl, (cell_of (keep0 hb Y4.out) 5).trans rfl, (cell_of (keep0 hb Y4.out) 6).trans rfl, (cell_of (keep0 hb Y4.out) 7).trans rfl, (cell_of (keep0 hb Y4.out) 8).trans rfl, (cell_of (keep0 hb Y4.out) 9).trans rfl, (cell_of (keep0 hb Y4.out) 10).trans rfl, (cell_of (keep0 hb Y4.out) 11).trans rfl, (cell_of (keep0 hb Y4.out) 12).trans rfl, (cell_of (keep0 hb Y4.out) 13).trans rfl, (cell_of (keep0 hb Y4.out) 14).trans rfl⟩)
      go_wp2_with fail
      go_region_held3 (fun w' => w'.cell? ⟨W.heap.size, 0, none⟩ = some (.slice s.A s.xs.length s.cap) ∧ w'.cell? ⟨W.heap.size, 1, none⟩ = some (.slice s.U s.up.length s.ucap) ∧ w'.cell? ⟨W.heap.size, 2, none⟩ = some (.int .i64 s.now) ∧ w'.cell? ⟨W.heap.size, 3, none⟩ = some (.slice s.H s.hs.length s.hcap) ∧ w'.cell? ⟨W.heap.size, 4, none⟩ = some (.slice s.K m s.kcap) ∧ w'.cell? ⟨W.heap.size + 1, 0, none⟩ = some (.int .i64 l.ticks) ∧ w'.cell? ⟨W.heap.size + 1, 1, none⟩ = some (.slice l.A l.es.length l.cap) ∧ w'.cell? ⟨W.heap.size + 1, 2, none⟩ = some (.int .i64 l.goes) ∧ w'.cell? ⟨W.heap.size + 1, 3, none⟩ = some (.int .i64 l.c.id) ∧ w'.cell? ⟨W.heap.size + 1, 4, none⟩ = some (.slice l.c.A l.c.pl.length l.c.cap) ∧ w'.cell? ⟨W.heap.size + 1, 5, none⟩ = some (.int .i64 l.c.m) ∧ w'.cell? ⟨W.heap.size + 1, 6, none⟩ = some (.int .i64 l.c.v.a) ∧ w'.cell? ⟨W.heap.size + 1, 7, none⟩ = some (.int .i64 l.c.v.b) ∧ w'.cell? ⟨W.heap.size + 1, 8, none⟩ = some (.int .i64 l.c.v.c) ∧ w'.cell? ⟨W.heap.size + 1, 9, none⟩ = some (.int .i64 l.c.v.d) ∧ w'.cell? ⟨W.heap.size + 1, 10, none⟩ = some (.int .i64 l.c.k) ∧ w'.cell? ⟨W.heap.size + 1, 11, none⟩ = some (.int .i64 l.c.s) ∧ w'.cell? ⟨W.heap.size + 1, 12, none⟩ = some (.slice l.c.G l.c.g.length l.c.gc) ∧ w'.cell? ⟨W.heap.size + 1, 13, none⟩ = some (.int .i64 l.at_) ∧ w'.cell? ⟨W.heap.size + 1, 14, none⟩ = some (.int .i64 l.turn)) (first | exact HKP.out _ (Below.drew (Below.refl _ _)) | exact HKP.out _ G6.out | exact HKP.out _ G7.out)
        (first
          | (go_at_call 14; (refine (KE.out _ (Below.drew (Below.refl _ _))).mono ?_); rintro _ w6 ⟨hv2, hs2, rfl, ho2, hb2, hEd, hIn2, hle2⟩; have G6 := hid (show Below w4.heap.size w4 w6 from unD hb2); obtain ⟨HA2, hcap2, rfl, hhds⟩ := own_hds ho2 (fun h hh => (hIn2 h hh).keep hb2); have H6 := hid hhds; have E6 := hid hEd; have L6 := hid hle2; clear ho2 hb2 hEd hIn2 hle2 hhds)
          | (go_at_call 12; (refine (KP2.out HA2 hcap2 hs2 _ G6.out H6.out L6.out E6.out).mono ?_); rintro _ w7 ⟨sa2, rfl, hb7, hrow2⟩; have G7 := hid (G6.out.trans (hb7.mono G6.out.size)); have R7 := hid hrow2; clear hb7 hrow2))
      have HPB := hid (HPO.out hs2 E6.out).2
      obtain ⟨S2, hS2⟩ : ∃ S2, S2 = passS s.xs s.up least hs2 B := ⟨_, rfl⟩
      rw [← hS2] at HPB R7
      have g7 := hid (g4.out.trans (G7.out.mono g4.out.size))
      have HK7 := hid (HK4.out.keep G7.out)
      have db2 : ((n2 : Int) != (n2 : Int)) = false := by simp
      clear hS2
      go_wp2_with fail
      go_loopw [15] (fun x wr => ∃ k : Nat, k ≤ n2 ∧ x = .int .i64 k ∧ Below w7.heap.size w7 wr) (fun x _ => n2 - (intOf x).toNat)
      case atStart => exact ⟨0, Nat.zero_le _, rfl, Below.refl _ _⟩
      case round =>
        obtain ⟨k, hk, rfl, hg⟩ := hrel
        have HG := hid hg
        clear hg
        clear db2
        by_cases hlt : k < n2
        · have hlt' : (k : Int) < (n2 : Int) := by omega
          obtain ⟨a, ha⟩ : ∃ a, B[k]? = some a := ⟨_, List.getElem?_eq_getElem (by have := HN2.out; omega)⟩
          obtain ⟨hin, bb, off, rfl, hbl, c0, c1, c2, c3, c4, c5, c6, c7, c8, c9⟩ := (HK7.out.keep HG.out).at ha
          obtain ⟨br2, GA, gcap, rfl, hbr, _, r1, _⟩ := (R7.out.keep HG.out).at hlt
          obtain ⟨t, ht⟩ : ∃ t, t = (S2 k).t := ⟨_, rfl⟩
          have hpb := HPB.out k a ha
          have hat := HAT.out k a ha
          rw [← ht] at r1 hpb
          clear ht ha hin
          by_cases hka : k = pa
          · have dk : ((k : Int) != (pa : Int)) = false := by simp [hka]
            clear hka hat hpb
            go_wp2_with fail
            go_quiet (fail)
            go_wp2_with fail
            go_roundw
            case rel => exact ⟨k + 1, by omega, by go_num, dN HG.out _⟩
            case measure => simp [intOf]; omega
          · have dk : ((k : Int) != (pa : Int)) = true := by simp; omega
            by_cases hs0 : 0 ≤ a.s
            · obtain ⟨ht0, ht1⟩ := hpb hs0
              have ds : decide (0 ≤ a.s) = true := decide_eq_true hs0
              have dt0 : decide (t < 0) = false := decide_eq_false (by omega)
              have dt1 : decide (a.s < t) = false := decide_eq_false (by omega)
              clear hka hat
              go_wp2_with fail
              go_quiet (fail)
              go_wp2_with fail
              go_roundw
              case rel => exact ⟨k + 1, by omega, by go_num, dN HG.out _⟩
              case measure => simp [intOf]; omega
            · have ds : decide (0 ≤ a.s) = false := decide_eq_false hs0
              clear hka hat hpb
              go_wp2_with fail
              go_quiet (fail)
              go_wp2_with fail
              go_roundw
              case rel => exact ⟨k + 1, by omega, by go_num, dN HG.out _⟩
              case measure => simp [intOf]; omega
        · obtain rfl : n2 = k := by omega
          go_wp2_with fail
          go_returns
          exact ⟨rfl, g7.out.trans (HG.out.mono g7.out.size)⟩
end Go.Proofs.Ythkofnahimlijaa
