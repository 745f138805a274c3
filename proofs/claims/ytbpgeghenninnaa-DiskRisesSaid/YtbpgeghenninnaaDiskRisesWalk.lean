/- The Go function DiskRises, called with any arguments, returns true and leaves all that was there. Condition: none. -/
import Derived.Test.YtbpgeghenninnaaOpen
import Derived.Test.YtbpgeghenninnaaRows
import Derived.StillTailTactics
import Derived.LoopTactic
namespace Go.Proofs.Ytbpgeghenninnaa
open Go Go.ChangeShapes Go.WideShapes Go.RowKit
theorem swE_0 {d : Dsk} {a b : Int × Int × Int} (h : swE d a b = 0) : (d.e, d.o, d.u) = a ∧ a.1 ≤ b.1 := by
  unfold swE at h
  split at h
  · omega
  · split at h
    · rename_i h1 h2
      exact ⟨h2, by omega⟩
    · omega
theorem swD_0 {d : Dsk} {a b : Int × Int × Int} (h : swE d a b = 0) : swD d a b = { d with e := b.1, o := b.2.1, u := b.2.2 } := if_pos h
theorem swD_n {d : Dsk} {a b : Int × Int × Int} (h : swE d a b ≠ 0) : swD d a b = d := if_neg h
theorem Acts.at {w W : World} {A : Option Addr} {xs : List ActS} (h : Acts w W A xs) (k : Nat) (hk : k < xs.length) : ∃ b off, A = some ⟨b, off, none⟩ ∧ b < w.heap.size ∧ (xs[k]).Ok W ∧ ∀ i, i < 12 → w.cell? ⟨b, off + k * 12 + i, none⟩ = (xs[k]).cells[i]? := by
  rcases h with rfl | ⟨b, off, rfl, hlt, hc⟩
  · simp at hk
  · obtain ⟨cs, ⟨rfl, hok⟩, _, h⟩ := hc k _ (List.getElem?_eq_getElem hk)
    exact ⟨b, off, rfl, hlt, hok, h⟩
theorem three {w : World} {B : Nat} {a0 a1 a2 : Value} {T : TypeId} (h : w.heap[B]? = some (.cells #[a0, a1, a2] T (0, 0))) : w.cell? ⟨B, 0, none⟩ = some a0 ∧ w.cell? ⟨B, 1, none⟩ = some a1 ∧ w.cell? ⟨B, 2, none⟩ = some a2 := by
  refine ⟨?_, ?_, ?_⟩
  · rw [cell_of h 0]; rfl
  · rw [cell_of h 1]; rfl
  · rw [cell_of h 2]; rfl
set_option maxRecDepth 10000 in
set_option maxHeartbeats 2000000 in
theorem diskRises_walk {H : Type} {enc : TypeId × Value → H} (W : World) (base : Nat) (args : Array Value) (ds : List (DataW H))
    (hval : ∀ (j : Nat) t v, Try.f3.params[j]? = some t → args[j]? = some v → Value.okWide Try.prog W .any base t v)
    (hA : ∃ p, DataW.TrodAll enc Try.prog W 0 (fun _ => true) true Try.f3.params.toList args.toList ds p) 
    (_ : (DataW.weightsEach Try.prog (Try.f3.params.toList ++ (OpenSpec.ofChange Rows.diskRisesSpec).bare.plain.varTypes Try.prog) (ds ++ [])).all (· ≤ reachBytes) = true)
    (_ : laidMetH Try.prog Rows.diskRisesRow.laid W) (_ : W.ShapedOpen Try.prog) :
    Calls Try.prog 3 args W fun e W' => e = .returned (.bool true) ∧ Below W.heap.size W W' := by
  obtain ⟨p, hA⟩ := hA
  rw [Try.params3] at hA hval
  obtain ⟨v0, v1, d0, d1, p0, p1, hargs, rfl, rfl, h0, h1⟩ := trodAll_two hA
  subst hargs
  obtain ⟨room, rfl, _, _, wr⟩ := open_int Try.underlying3 (hval 0 3 v0 rfl rfl) h0
  obtain ⟨A, cap, xs, rfl, hacts, hl63⟩ := acts_is (hval 1 22 v1 rfl rfl) h1
  clear h0 h1 hval hA wr
  have HA := hid hacts
  have hl1 : (xs.length : Int) ≤ 9223372036854775807 := by omega
  clear hacts
  go_enter Try.func3, Try.ntmps3
  go_wp2_with fail
  refine (awake_any _).mono ?_
  rintro _ w1 ⟨rfl, hb⟩
  have G1 := hid (show Below W.heap.size W w1 from hb)
  clear hb
  go_wp2_with fail
  refine (new_any room _).mono ?_
  rintro _ w2 ⟨rfl, hd, hb⟩
  have D2 := hid hd
  have G2 := hid (below_step G1.out G1.out.size hb)
  clear hd hb
  go_wp2_with fail
  go_loopw [7, 8] (fun ep i wr => ∃ (k : Nat) (d : Dsk), k ≤ xs.length ∧ k ≤ 60 ∧ i = .int .i64 k ∧ ep = .int .i64 d.e ∧ DK wr w1.heap.size w1.heap.size d ∧ Below W.heap.size W wr) (fun _ i _ => 60 - (intOf i).toNat)
  case atStart => exact ⟨0, _, Nat.zero_le _, by decide, rfl, rfl, D2.out, G2.out⟩
  case round =>
    obtain ⟨k, d, hk, hk60, rfl, rfl, hd, hg⟩ := hrel
    have DK0 := hid hd
    have G0 := hid hg
    have hlt0 := hd.lt
    have G1s := G1.out.size
    clear hd hg D2 G2
    by_cases hlt : k < xs.length
    · by_cases h60 : k < 60
      · have hlt' : (k : Int) < 60 := by omega
        obtain ⟨b, off, rfl, hbl, hok, hcells⟩ := HA.out.at k hlt
        have HC := hid (fun (w : World) (hg : Below W.heap.size W w) (i : Nat) (hi : i < 12) => (hg.cell (p := ⟨b, off + k * 12 + i, none⟩) hbl).trans (hcells i hi))
        clear hcells
        generalize xs[k] = a at *
        have e1 := swE_0 (d := d) (a := a.old) (b := a.c)
        have e2 := swD_0 (d := d) (a := a.old) (b := a.c)
        have e3 := swD_n (d := d) (a := a.old) (b := a.c)
        have HS1 := hid (fun w h => swap_any w1.heap.size w1.heap.size d a.old a.c w h (Nat.le_refl _))
        obtain ⟨er, her⟩ : ∃ er, er = swE d a.old a.c := ⟨_, rfl⟩
        obtain ⟨d1, hd1⟩ : ∃ d1, d1 = swD d a.old a.c := ⟨_, rfl⟩
        rw [← her] at e1 e2 e3 HS1
        rw [← hd1] at e2 e3 HS1
        have e4 := swE_0 (d := d1) (a := (d.e, d.o, d.u)) (b := a.c)
        have e5 := swD_0 (d := d1) (a := (d.e, d.o, d.u)) (b := a.c)
        have e6 := swD_n (d := d1) (a := (d.e, d.o, d.u)) (b := a.c)
        have HS2 := hid (fun w h => swap_any w1.heap.size w1.heap.size d1 (d.e, d.o, d.u) a.c w h (Nat.le_refl _))
        obtain ⟨fr, hfr⟩ : ∃ fr, fr = swE d1 (d.e, d.o, d.u) a.c := ⟨_, rfl⟩
        obtain ⟨d2, hd2⟩ : ∃ d2, d2 = swD d1 (d.e, d.o, d.u) a.c := ⟨_, rfl⟩
        rw [← hfr] at e4 e5 e6 HS2
        rw [← hd2] at e5 e6 HS2
        have HW : Hid ((er = 0 ∧ fr = 0 ∧ a.old = (d.e, d.o, d.u) ∧ (d2.e, d2.o, d2.u) = a.c ∧ d.e ≤ d2.e) ∨ (er = 0 ∧ fr ≠ 0 ∧ a.old = (d.e, d.o, d.u) ∧ d.e ≤ d2.e) ∨ (er ≠ 0 ∧ fr = 0 ∧ (d2.e, d2.o, d2.u) = a.c ∧ d.e ≤ d2.e) ∨ (er ≠ 0 ∧ fr ≠ 0 ∧ d2 = d)) := by
          by_cases h0 : er = 0
          · have := e1 h0
            have hd := e2 h0
            by_cases h1 : fr = 0
            · have h5 := e5 h1
              have h4 := e4 h1
              exact .inl ⟨h0, h1, this.1.symm, by rw [h5], by rw [h5]; exact h4.2⟩
            · have h6 := e6 h1
              refine .inr (.inl ⟨h0, h1, this.1.symm, ?_⟩)
              rw [h6, hd]
              have h7 := this.2
              rw [← this.1] at h7
              exact h7
          · have hd := e3 h0
            by_cases h1 : fr = 0
            · have h5 := e5 h1
              have h4 := e4 h1
              exact .inr (.inr (.inl ⟨h0, h1, by rw [h5], by rw [h5]; exact h4.2⟩))
            · exact .inr (.inr (.inr ⟨h0, h1, by rw [e6 h1, hd]⟩))
        clear e1 e2 e3 e4 e5 e6 her hd1 hfr hd2
        obtain ⟨room', de, do_, du, log, snap, stg, armed, cut⟩ := d
        obtain ⟨r2, e2, o2, u2, l2, s2, t2, ar2, cu2⟩ := d2
        obtain ⟨kind, near, ep, at_, bA, bc, bs, sum, ⟨q0, q1, q2⟩, ⟨c0, c1, c2⟩⟩ := a
        simp only [ActS.cells] at HC
        simp only [cl] at HS1 HS2
        simp only at HW ⊢
        go_wp2_with fail
        refine (claim_any _ _ _ _ DK0.out).mono ?_
        rintro _ w3 ⟨rfl, hb⟩
        have D3 := hid (DK0.out.keep hb)
        have G3 := hid (below_step G0.out G0.out.size hb)
        have L3 := (DK0.out.keep hb).lt
        clear hb
        obtain ⟨w3a, hw3a⟩ : ∃ w3a, w3a = w3.alloc (.cells #[.int .i64 de, .int .i64 do_, .int .i64 du] 27) := ⟨_, rfl⟩
        have D3a := hid (show DK w3a w1.heap.size w1.heap.size _ from by rw [hw3a]; exact D3.out.keep (by go_grown))
        have G3a := hid (show Below W.heap.size W w3a from by rw [hw3a]; exact G3.out.alloc G3.out.size _)
        have O3a := hid (show w3a.heap[w3.heap.size]? = some (.cells #[.int .i64 de, .int .i64 do_, .int .i64 du] 27 (0, 0)) from by rw [hw3a]; exact heap_new _ _)
        go_wp2_with fail
        rw [← hw3a]
        clear hw3a
        have m6 : w3a.cell? ⟨b, off + k * 12 + 6, none⟩ = some (.int .i64 q0) := HC.out _ G3a.out 6 (by decide)
        have m7 : w3a.cell? ⟨b, off + k * 12 + 7, none⟩ = some (.int .i64 q1) := HC.out _ G3a.out 7 (by decide)
        have m8 : w3a.cell? ⟨b, off + k * 12 + 8, none⟩ = some (.int .i64 q2) := HC.out _ G3a.out 8 (by decide)
        have m9 : w3a.cell? ⟨b, off + k * 12 + 9, none⟩ = some (.int .i64 c0) := HC.out _ G3a.out 9 (by decide)
        have m10 : w3a.cell? ⟨b, off + k * 12 + 10, none⟩ = some (.int .i64 c1) := HC.out _ G3a.out 10 (by decide)
        have m11 : w3a.cell? ⟨b, off + k * 12 + 11, none⟩ = some (.int .i64 c2) := HC.out _ G3a.out 11 (by decide)
        have bl3 : b < w3a.heap.size := Nat.lt_of_lt_of_le hbl G3a.out.size
        go_still_tail 11, (by kernel_rfl)
        change wpList _ _ _ _ _ w3a.drew
        have D3d := hid (D3a.out.keep (Below.drew (Below.refl _ w3a)))
        clear m6 m7 m8 m9 m10 m11
        go_wp2_with fail
        refine (HS1.out _ D3d.out).mono ?_
        rintro _ w4 ⟨rfl, hd, hf⟩
        have D4 := hid hd
        have L4 := hd.lt
        have G4 := hid ((G3a.out.drew).trans (hf.1.mono G1.out.size))
        have O4 := hid (hf.2 _ _ (show w3a.drew.heap[w3.heap.size]? = _ from O3a.out) (by omega) (fun cs e => by cases e))
        clear hd hf D3d D3a D3 DK0
        go_wp2_with fail
        have m6 : w4.cell? ⟨b, off + k * 12 + 6, none⟩ = some (.int .i64 q0) := HC.out _ G4.out 6 (by decide)
        have m7 : w4.cell? ⟨b, off + k * 12 + 7, none⟩ = some (.int .i64 q1) := HC.out _ G4.out 7 (by decide)
        have m8 : w4.cell? ⟨b, off + k * 12 + 8, none⟩ = some (.int .i64 q2) := HC.out _ G4.out 8 (by decide)
        have m9 : w4.cell? ⟨b, off + k * 12 + 9, none⟩ = some (.int .i64 c0) := HC.out _ G4.out 9 (by decide)
        have m10 : w4.cell? ⟨b, off + k * 12 + 10, none⟩ = some (.int .i64 c1) := HC.out _ G4.out 10 (by decide)
        have m11 : w4.cell? ⟨b, off + k * 12 + 11, none⟩ = some (.int .i64 c2) := HC.out _ G4.out 11 (by decide)
        obtain ⟨o0, o1, o2'⟩ := three O4.out
        go_still_tail 7, (by kernel_rfl)
        change wpList _ _ _ _ _ w4.drew
        have D4d := hid (D4.out.keep (Below.drew (Below.refl _ w4)))
        clear m6 m7 m8 m9 m10 m11 o0 o1 o2'
        go_wp2_with fail
        refine (HS2.out _ D4d.out).mono ?_
        rintro _ w5 ⟨rfl, hd, hf⟩
        have D5 := hid hd
        have L5 := hd.lt
        have G5 := hid ((G4.out.drew).trans (hf.1.mono G1.out.size))
        have O5 := hid (hf.2 _ _ (show w4.drew.heap[w3.heap.size]? = _ from O4.out) (by omega) (fun cs e => by cases e))
        clear hd hf D4d D4 O4
        go_wp2_with fail
        refine (claim_any _ _ _ _ D5.out).mono ?_
        rintro _ w6 ⟨rfl, hb⟩
        have D6 := hid (D5.out.keep hb)
        have G6 := hid (below_step G5.out G5.out.size hb)
        have O6 := hid (keep0 hb O5.out)
        have L6 := lt_of O6.out
        clear hb
        obtain ⟨w6a, hw6a⟩ : ∃ w6a, w6a = w6.alloc (.cells #[.int .i64 e2, .int .i64 o2, .int .i64 u2] 27) := ⟨_, rfl⟩
        have D6a := hid (show DK w6a w1.heap.size w1.heap.size _ from by rw [hw6a]; exact D6.out.keep (by go_grown))
        have G6a := hid (show Below W.heap.size W w6a from by rw [hw6a]; exact G6.out.alloc G6.out.size _)
        have O6a := hid (show w6a.heap[w3.heap.size]? = some (.cells #[.int .i64 de, .int .i64 do_, .int .i64 du] 27 (0, 0)) from by rw [hw6a]; exact heapA O6.out)
        have P6a := hid (show w6a.heap[w6.heap.size]? = some (.cells #[.int .i64 e2, .int .i64 o2, .int .i64 u2] 27 (0, 0)) from by rw [hw6a]; exact heap_new _ _)
        go_wp2_with fail
        rw [← hw6a]
        clear hw6a D6 G6 O6
        have m6 : w6a.cell? ⟨b, off + k * 12 + 6, none⟩ = some (.int .i64 q0) := HC.out _ G6a.out 6 (by decide)
        have m7 : w6a.cell? ⟨b, off + k * 12 + 7, none⟩ = some (.int .i64 q1) := HC.out _ G6a.out 7 (by decide)
        have m8 : w6a.cell? ⟨b, off + k * 12 + 8, none⟩ = some (.int .i64 q2) := HC.out _ G6a.out 8 (by decide)
        have m9 : w6a.cell? ⟨b, off + k * 12 + 9, none⟩ = some (.int .i64 c0) := HC.out _ G6a.out 9 (by decide)
        have m10 : w6a.cell? ⟨b, off + k * 12 + 10, none⟩ = some (.int .i64 c1) := HC.out _ G6a.out 10 (by decide)
        have m11 : w6a.cell? ⟨b, off + k * 12 + 11, none⟩ = some (.int .i64 c2) := HC.out _ G6a.out 11 (by decide)
        obtain ⟨o0, o1, o2'⟩ := three O6a.out
        obtain ⟨z0, z1, z2⟩ := three P6a.out
        have bl6 : b < w6a.heap.size := Nat.lt_of_lt_of_le hbl G6a.out.size
        rcases HW.out with ⟨rfl, rfl, h1, h2, h3⟩ | ⟨rfl, hx, h1, h3⟩ | ⟨hx, rfl, h2, h3⟩ | ⟨hx, hy, h3⟩
        · obtain ⟨rfl, rfl, rfl⟩ : q0 = de ∧ q1 = do_ ∧ q2 = du := by simpa using h1
          obtain ⟨rfl, rfl, rfl⟩ : e2 = c0 ∧ o2 = c1 ∧ u2 = c2 := by simpa using h2
          have h4 : ¬ e2 < q0 := by omega
          clear h1 h2
          go_quiet (fail)
          have DQ := hid (D6a.out.keep (quiet_below (Below.refl _ w6a) nq))
          have GQ := hid (quiet_below G6a.out nq)
          go_wp2_with fail
          go_roundw
          case rel => exact ⟨k + 1, _, by omega, by omega, by go_num, rfl, DQ.out, GQ.out⟩
          case measure => simp [intOf]; omega
        · obtain ⟨rfl, rfl, rfl⟩ : q0 = de ∧ q1 = do_ ∧ q2 = du := by simpa using h1
          have h4 : ¬ e2 < q0 := by omega
          have h5 : (fr == 0) = false := by simpa using hx
          have h6 : (fr != 0) = true := by simpa using hx
          clear h1 hx
          go_quiet (fail)
          have DQ := hid (D6a.out.keep (quiet_below (Below.refl _ w6a) nq))
          have GQ := hid (quiet_below G6a.out nq)
          go_wp2_with fail
          go_roundw
          case rel => exact ⟨k + 1, _, by omega, by omega, by go_num, rfl, DQ.out, GQ.out⟩
          case measure => simp [intOf]; omega
        · obtain ⟨rfl, rfl, rfl⟩ : e2 = c0 ∧ o2 = c1 ∧ u2 = c2 := by simpa using h2
          have h4 : ¬ e2 < de := by omega
          have h5 : (er == 0) = false := by simpa using hx
          have h6 : (er != 0) = true := by simpa using hx
          clear h2 hx
          go_quiet (fail)
          have DQ := hid (D6a.out.keep (quiet_below (Below.refl _ w6a) nq))
          have GQ := hid (quiet_below G6a.out nq)
          go_wp2_with fail
          go_roundw
          case rel => exact ⟨k + 1, _, by omega, by omega, by go_num, rfl, DQ.out, GQ.out⟩
          case measure => simp [intOf]; omega
        · cases h3
          have h4 : ¬ de < de := by omega
          have h5 : (er == 0) = false := by simpa using hx
          have h6 : (er != 0) = true := by simpa using hx
          have h7 : (fr == 0) = false := by simpa using hy
          have h8 : (fr != 0) = true := by simpa using hy
          clear hx hy
          go_quiet (fail)
          have DQ := hid (D6a.out.keep (quiet_below (Below.refl _ w6a) nq))
          have GQ := hid (quiet_below G6a.out nq)
          go_wp2_with fail
          go_roundw
          case rel => exact ⟨k + 1, _, by omega, by omega, by go_num, rfl, DQ.out, GQ.out⟩
          case measure => simp [intOf]; omega
      · obtain rfl : k = 60 := by omega
        go_wp2_with fail
        all_goals go_returns
        all_goals exact ⟨rfl, G0.out⟩
    · obtain rfl : k = xs.length := by omega
      go_wp2_with fail
      all_goals go_returns
      all_goals exact ⟨rfl, G0.out⟩
end Go.Proofs.Ytbpgeghenninnaa
