/- The Go function ShareLeast, called with any row of shares, returns true and leaves all that was there. Condition: none. -/
import Derived.Test.YtafcajojepigiaaSlice
import Derived.Test.YtafcajojepigiaaAwake
import Derived.Test.YtafcajojepigiaaRows
namespace Go.Proofs.Ytafcajojepigiaa
open Go Go.ChangeShapes Go.WideShapes Go.RowKit
theorem least_zero (A : Option Addr) (cap : Nat) (w : World) : Calls Try.prog 20 #[.slice A 0 cap] w fun e w' => e = .returned (.int .i64 (-1)) ∧ Below w.heap.size w w' := by
  go_enter Try.func20, Try.ntmps20
  go_wp2_with fail
  go_rounds 1
  all_goals go_wp2_with fail
  all_goals go_returns
  all_goals exact ⟨rfl, by go_grown⟩
set_option maxRecDepth 100000 in
set_option maxHeartbeats 4000000 in
theorem shareLeast_walk {H : Type} {enc : TypeId × Value → H} (W : World) (base : Nat) (args : Array Value) (ds : List (DataW H))
    (hval : ∀ (j : Nat) t v, Try.f7.params[j]? = some t → args[j]? = some v → Value.okWide Try.prog W .any base t v)
    (hA : ∃ p, DataW.TrodAll enc Try.prog W 0 (fun _ => true) true Try.f7.params.toList args.toList ds p)
    (_ : (DataW.weightsEach Try.prog (Try.f7.params.toList ++ (OpenSpec.ofChange Rows.shareLeastSpec).bare.plain.varTypes Try.prog) (ds ++ [])).all (· ≤ reachBytes) = true)
    (_ : laidMetH Try.prog Rows.shareLeastRow.laid W) (_ : W.ShapedOpen Try.prog) :
    Calls Try.prog 7 args W fun e W' => e = .returned (.bool true) ∧ Below W.heap.size W W' := by
  obtain ⟨p, hA⟩ := hA
  rw [Try.params7] at hA hval
  obtain ⟨v0, d0, hargs, rfl, h0⟩ := trodAll_one hA
  subst hargs
  obtain ⟨A, len, cap, rfl, hz⟩ := row_is (hval 0 39 v0 rfl rfl) h0
  clear hval hA h0
  rcases hz with rfl | ⟨b, off, S, rfl, hb, hlen, hS, hm⟩
  · go_enter Try.func7, Try.ntmps7
    go_wp2_with fail
    refine (awake_any _).mono ?_
    rintro _ w1 ⟨rfl, hb⟩
    have g1 := hid hb
    clear hb
    go_wp2_with fail
    refine (least_zero _ _ _).mono ?_
    rintro _ w2 ⟨rfl, hb⟩
    have g2 := hid (below_step g1.out g1.out.size hb)
    clear hb
    go_wp2_with fail
    all_goals go_returns
    all_goals exact ⟨rfl, g2.out⟩
  · by_cases hl0 : len = 0
    · subst hl0
      go_enter Try.func7, Try.ntmps7
      go_wp2_with fail
      refine (awake_any _).mono ?_
      rintro _ w1 ⟨rfl, hb⟩
      have g1 := hid hb
      clear hb
      go_wp2_with fail
      refine (least_zero _ _ _).mono ?_
      rintro _ w2 ⟨rfl, hb⟩
      have g2 := hid (below_step g1.out g1.out.size hb)
      clear hb
      go_wp2_with fail
      all_goals go_returns
      all_goals exact ⟨rfl, g2.out⟩
    · obtain ⟨k, hk, hkl, hall⟩ := leF_least S len (by omega)
      have KL : ∀ w, Below W.heap.size W w → Calls Try.prog 20 #[.slice (some ⟨b, off, none⟩) len cap] w fun e w' => e = .returned (.int .i64 k) ∧ Below w.heap.size w w' := fun w hw => by
        rw [← hk]
        refine least_any S b off len cap w hlen (Nat.lt_of_lt_of_le hb hw.size) (fun i hi => ?_) hm KCmp
        rw [hw.cell (p := ⟨b, off + i * 2, none⟩) hb, hw.cell (p := ⟨b, off + i * 2 + 1, none⟩) hb]
        exact hS i hi
      have KL' := hid KL
      have HS := hid hS
      have HM := hid hm
      have HA := hid hall
      have e0 : ((len : Int) == 0) = false := by simp; omega
      have e1 : ¬ ((k : Int) < 0) := by omega
      have e2 : ¬ ((len : Int) ≤ (k : Int)) := by omega
      have e3 : (k : Int) < (len : Int) := by omega
      have d1 : decide ((k : Int) < 0) = false := by simp
      have d2 : decide (len ≤ k) = false := by simp; omega
      clear KL hS hm hall hk
      go_enter Try.func7, Try.ntmps7
      go_wp2_with fail
      refine (awake_any _).mono ?_
      rintro _ w1 ⟨rfl, hbb⟩
      have g1 := hid hbb
      clear hbb
      go_wp2_with fail
      refine (KL'.out _ g1.out).mono ?_
      rintro _ w2 ⟨rfl, hbb⟩
      have g2 := hid (below_step g1.out g1.out.size hbb)
      clear hbb
      go_wp2_with fail
      go_loopw [5] (fun i wr => ∃ n : Nat, n ≤ len ∧ n ≤ 1000 ∧ i = .int .i64 n ∧ Below W.heap.size W wr) (fun i _ => 1001 - (intOf i).toNat)
      case atStart => exact ⟨0, by omega, by omega, rfl, g2.out⟩
      case round =>
        obtain ⟨n, hn, hn1, rfl, hg⟩ := hrel
        by_cases hlt : n < len ∧ n < 1000
        · obtain ⟨hl1, hl2⟩ := hlt
          have hx := HS.out n hl1
          have hy := HS.out k hkl
          have x0 : wr.cell? ⟨b, off + n * 2, none⟩ = some (.int .i64 (S n).1) := by rw [hg.cell (p := ⟨b, off + n * 2, none⟩) hb]; exact hx.1
          have x1 : wr.cell? ⟨b, off + n * 2 + 1, none⟩ = some (.int .i64 (S n).2) := by rw [hg.cell (p := ⟨b, off + n * 2 + 1, none⟩) hb]; exact hx.2
          have y0 : wr.cell? ⟨b, off + k * 2, none⟩ = some (.int .i64 (S k).1) := by rw [hg.cell (p := ⟨b, off + k * 2, none⟩) hb]; exact hy.1
          have y1 : wr.cell? ⟨b, off + k * 2 + 1, none⟩ = some (.int .i64 (S k).2) := by rw [hg.cell (p := ⟨b, off + k * 2 + 1, none⟩) hb]; exact hy.2
          have M := hid (And.intro (HM.out n hl1) (HM.out k hkl))
          have hc := HA.out n hl1
          have G := hid hg
          have i1 : (n : Int) < (len : Int) := by omega
          clear hx hy hg
          generalize (S n).1 = a0 at *
          generalize (S n).2 = a1 at *
          generalize (S k).1 = b0 at *
          generalize (S k).2 = b1 at *
          have KC := hid (fun w => compare_any a0 a1 b0 b1 w M.out.1.1 M.out.1.2 M.out.2.1 M.out.2.2)
          generalize cmpS a0 a1 b0 b1 = c at *
          have hc0 : 0 ≤ c := hc.1
          have hc1 : (n < k ∧ 0 < c) ∨ ¬ n < k := by
            by_cases h : n < k
            · exact .inl ⟨h, hc.2 h⟩
            · exact .inr h
          clear hc
          go_wp2_with fail
          go_region_with (go_at_call 11; refine (KC.out _).mono ?_; rintro e w4 ⟨rfl, hbb⟩; have g4 := hid (below_step G.out G.out.size (unD hbb)); clear hbb)
          all_goals
            rcases hc1 with ⟨hnk, hc1⟩ | hnk
            · have f0 : (c == 0) = false := by simp; omega
              go_wp2_with fail
              go_roundw
              case rel => exact ⟨n + 1, by omega, by omega, by go_num, g4.out⟩
              case measure => simp [intOf]; omega
            · go_wp2_with fail
              go_roundw
              case rel => exact ⟨n + 1, by omega, by omega, by go_num, g4.out⟩
              case measure => simp [intOf]; omega
        · go_wp2_with fail
          all_goals go_returns
          all_goals exact ⟨rfl, hg⟩
end Go.Proofs.Ytafcajojepigiaa
