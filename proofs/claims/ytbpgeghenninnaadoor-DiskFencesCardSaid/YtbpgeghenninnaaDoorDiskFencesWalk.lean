/- The Go function DiskFences, called with any arguments, returns true and leaves all that was there. Condition: the table of half bytes is as the program's text lays it. -/
import Derived.Test.YtbpgeghenninnaaDoorOpen2
namespace Go.Proofs.YtbpgeghenninnaaDoor
open Go Go.ChangeShapes Go.WideShapes Go.RowKit
theorem three {w : World} {B : Nat} {a0 a1 a2 : Value} {T : TypeId} (h : w.heap[B]? = some (.cells #[a0, a1, a2] T (0, 0))) : w.cell? ⟨B, 0, none⟩ = some a0 ∧ w.cell? ⟨B, 1, none⟩ = some a1 ∧ w.cell? ⟨B, 2, none⟩ = some a2 := by
  refine ⟨?_, ?_, ?_⟩
  · rw [cell_of h 0]; rfl
  · rw [cell_of h 1]; rfl
  · rw [cell_of h 2]; rfl
set_option maxRecDepth 10000 in
set_option maxHeartbeats 4000000 in
theorem diskFences_walk {H : Type} {enc : TypeId × Value → H} (W : World) (base : Nat) (args : Array Value) (ds : List (DataW H))
    (hval : ∀ (j : Nat) t v, Tryd.f4.params[j]? = some t → args[j]? = some v → Value.okWide Tryd.prog W .any base t v)
    (hA : ∃ p, DataW.TrodAll enc Tryd.prog W 0 (fun _ => true) true Tryd.f4.params.toList args.toList ds p) 
    (_ : (DataW.weightsEach Tryd.prog (Tryd.f4.params.toList ++ (OpenSpec.ofChange Rows.diskFencesSpec).bare.plain.varTypes Tryd.prog) (ds ++ [])).all (· ≤ reachBytes) = true)
    (hL : laidMetH Tryd.prog Rows.diskFencesRow.laid W) (_ : W.ShapedOpen Tryd.prog) :
    Calls Tryd.prog 4 args W fun e W' => e = .returned (.bool true) ∧ Below W.heap.size W W' := by
  obtain ⟨p, hA⟩ := hA
  rw [Tryd.params4] at hA hval
  obtain ⟨v0, v1, v2, d0, d1, d2, p0, p1, p2, hargs, rfl, rfl, h0, h1, h2⟩ := trodAll_three hA
  subst hargs
  obtain ⟨room, rfl, _, _, wr⟩ := open_int Tryd.underlying3 (hval 0 3 v0 rfl rfl) h0
  obtain ⟨A, cap, xs, rfl, hacts, hl63⟩ := acts_is (hval 1 22 v1 rfl rfl) h1
  obtain ⟨a, rfl, hok⟩ := act_is (hval 2 35 v2 rfl rfl) h2
  clear h0 h1 h2 hval hA wr
  have hT := tab_of hL
  have HT := hid hT
  have h0W : 0 < W.heap.size := lt_of hT.choose_spec.choose_spec
  have HA := hid hacts
  have HOK := hid hok
  have HSL := hid (fun (w : World) (hg : Below W.heap.size W w) => hok.b.keep hg)
  have hl1 : (xs.length : Int) ≤ 9223372036854775807 := by omega
  clear hacts hok hT hL
  simp only [ActS.cells]
  go_enter Tryd.func4, Tryd.ntmps4
  go_wp2_with fail
  refine (awake_any _).mono ?_
  rintro _ w1 ⟨rfl, hb⟩
  have G1 := hid (show Below W.heap.size W w1 from below_step (by go_grown) (by simp) hb)
  have A1 := hid (show w1.heap[W.heap.size]? = some (.cells #[.int .i64 a.kind, .bool a.near, .int .i64 a.ep, .int .i64 a.at_, .slice a.bA a.bs.length a.bc, .int .u32 a.sum, .int .i64 a.old.1, .int .i64 a.old.2.1, .int .i64 a.old.2.2, .int .i64 a.c.1, .int .i64 a.c.2.1, .int .i64 a.c.2.2] 35 (0, 0)) from keep0 hb (heap_new _ _))
  have hWdb0 := lt_of A1.out
  clear hb
  go_wp2_with fail
  refine (behind_any W room A cap xs _ HA.out hl63 G1.out HT.out).mono ?_
  rintro _ w2 ⟨d, rfl, hd, hb⟩
  have D2 := hid hd
  have G2 := hid (below_step G1.out G1.out.size hb)
  have A2 := hid (keep0 hb A1.out)
  obtain ⟨m0, m1, m2, m3, m4, m5, m6, m7, m8, m9, m10, m11⟩ := twelve A2.out
  have hWB : W.heap.size ≤ w1.heap.size := G1.out.size
  have hWdb : W.heap.size ≠ w1.heap.size := by omega
  clear hd hb A1
  by_cases h2 : 2000 < a.bs.length
  · have h2' : (2000 : Int) < (a.bs.length : Int) := by omega
    go_wp2_with fail
    all_goals go_returns
    all_goals exact ⟨rfl, G2.out⟩
  · have h2' : ¬ (2000 : Int) < (a.bs.length : Int) := by omega
    have HNE := hid (HOK.out.b.1.ne (db := w1.heap.size) hWB)
    obtain ⟨s1, hs1⟩ : ∃ s1, s1 = str d.log := ⟨_, rfl⟩
    obtain ⟨s2, hs2⟩ : ∃ s2, s2 = str d.snap := ⟨_, rfl⟩
    have hsz1 : s1.size ≤ 1048576 := by rw [hs1, str_size]; exact D2.out.good.l
    have HS1 := hid hs1
    have HS2 := hid hs2
    clear hs1 hs2 m0 m1 m2 m3 m5 m6 m7 m8 m9 m10 m11
    go_wp2_with fail
    refine (log_any _ _ _ _ D2.out).mono ?_
    rintro _ w3 ⟨v, rfl, ho, hb⟩
    obtain ⟨L1, k1, rfl⟩ := ho.slice
    have hc1 : (convert 32 9 (.slice L1 d.log.length k1)).run Tryd.prog w3 = .ok (.string s1) w3 := by rw [HS1.out]; exact str_of k1 ho.bts
    have D3 := hid (D2.out.keep hb)
    have G3 := hid (below_step G2.out G2.out.size hb)
    have A3 := hid (keep0 hb A2.out)
    clear ho hb m4
    go_wp2_with fail
    clear hc1
    refine (snap_any _ _ _ _ D3.out).mono ?_
    rintro _ w4 ⟨v, rfl, ho, hb⟩
    obtain ⟨L2, k2, rfl⟩ := ho.slice
    have hc2 : (convert 32 9 (.slice L2 d.snap.length k2)).run Tryd.prog w4 = .ok (.string s2) w4 := by rw [HS2.out]; exact str_of k2 ho.bts
    have D4 := hid (D3.out.keep hb)
    have G4 := hid (below_step G3.out G3.out.size hb)
    have A4 := hid (keep0 hb A3.out)
    clear ho hb
    go_wp2_with fail
    clear hc2
    refine (claim_any _ _ _ _ D4.out).mono ?_
    rintro _ w5 ⟨rfl, hb⟩
    have D5 := hid (D4.out.keep hb)
    have G5 := hid (below_step G4.out G4.out.size hb)
    have A5 := hid (keep0 hb A4.out)
    have L5 := D5.out.lt
    have hcdb : w5.heap.size ≠ w1.heap.size := by omega
    clear hb D2 D3 D4 G2 G3 G4 A2 A3 A4
    obtain ⟨wa, hwa⟩ : ∃ wa, wa = w5.alloc (.cells #[.int .i64 d.e, .int .i64 d.o, .int .i64 d.u] 27) := ⟨_, rfl⟩
    have hba : Below w5.heap.size w5 wa := by rw [hwa]; go_grown
    have Da := hid (D5.out.keep hba)
    have Ga := hid (below_step G5.out G5.out.size hba)
    have Aa := hid (keep0 hba A5.out)
    have Ca := hid (show wa.heap[w5.heap.size]? = some (.cells #[.int .i64 d.e, .int .i64 d.o, .int .i64 d.u] 27 (0, 0)) from by rw [hwa]; exact heap_new _ _)
    have HWa := hid hwa
    obtain ⟨m0, m1, m2, m3, m4, m5, m6, m7, m8, m9, m10, m11⟩ := twelve Aa.out
    obtain ⟨c0, c1, c2⟩ := three Ca.out
    have f2 := free_of Aa.out 2
    clear hba hwa
    go_upto_region 10 with (fail)
    rw [← HWa.out]
    clear HWa
    by_cases hep : a.ep = d.e
    · obtain ⟨ep, hepd⟩ : ∃ ep, ep = bits .xor .i64 d.e 1 := ⟨_, rfl⟩
      have hne : ep ≠ d.e := by rw [hepd]; exact xor_ne d.e
      obtain ⟨w6, hw6⟩ : ∃ w6, w6 = wa.setCell ⟨W.heap.size, 2, none⟩ (.int .i64 ep) := ⟨_, rfl⟩
      have D6 := hid (show DK w6 w1.heap.size w1.heap.size d from by rw [hw6]; exact Da.out.oth Aa.out (by decide) hWdb (fun k hk => heap_setCell_other _ _ _ _ hk))
      have A6 := hid (show w6.heap[W.heap.size]? = some (.cells #[.int .i64 a.kind, .bool a.near, .int .i64 ep, .int .i64 a.at_, .slice a.bA a.bs.length a.bc, .int .u32 a.sum, .int .i64 a.old.1, .int .i64 a.old.2.1, .int .i64 a.old.2.2, .int .i64 a.c.1, .int .i64 a.c.2.1, .int .i64 a.c.2.2] 35 (0, 0)) from by rw [hw6]; simpa using heap_setCell_same wa W.heap.size 2 _ 35 (.int .i64 ep) Aa.out)
      have C6 := hid (show w6.heap[w5.heap.size]? = some (.cells #[.int .i64 d.e, .int .i64 d.o, .int .i64 d.u] 27 (0, 0)) from by rw [hw6, heap_setCell_other _ _ _ _ (by simp only; omega)]; exact Ca.out)
      have G6 := hid (show Below W.heap.size W w6 from by rw [hw6]; exact Ga.out.setCell (p := ⟨W.heap.size, 2, none⟩) (Nat.le_refl _) _)
      have HW6 := hid hw6
      have HEP := hid hepd
      rw [hep] at m2
      clear hw6 hepd hep
      go_upto_region 12 with (fail)
      rw [← HEP.out, ← HW6.out]
      clear m0 m1 m2 m3 m4 m5 m6 m7 m8 m9 m10 m11 c0 c1 c2 f2 Da Aa Ca Ga D5 A5 G5
      obtain ⟨m0, m1, m2, m3, m4, m5, m6, m7, m8, m9, m10, m11⟩ := twelve A6.out
      have KC := hid (append_any w1.heap.size w1.heap.size d ep s1.size a.bA a.bc a.bs w6 D6.out (Nat.le_refl _) (HSL.out w6 G6.out).1 (HSL.out w6 G6.out).2.1 (HSL.out w6 G6.out).2.2.2 HNE.out (by omega))
      obtain ⟨q1, q2, q3⟩ := ap_fenced (at_ := s1.size) (bs := a.bs) hne
      rw [q1, q2, q3] at KC
      clear q1 q2 q3
      go_wp2_with fail
      with_reducible refine KC.out.mono ?_
      rintro _ w7 ⟨rfl, hd, hf⟩
      have D7 := hid hd
      have A7 := hid (hf.2 _ _ A6.out hWdb (fun cs e => by cases e))
      have C7 := hid (hf.2 _ _ C6.out hcdb (fun cs e => by cases e))
      have G7 := hid (G6.out.trans (hf.1.mono hWB))
      clear hd hf m0 m1 m2 m3 m4 m5 m6 m7 m8 m9 m10 m11 KC
      obtain ⟨m0, m1, m2, m3, m4, m5, m6, m7, m8, m9, m10, m11⟩ := twelve A7.out
      have KC := hid (chop_any w1.heap.size w1.heap.size d ep 0 w7 D7.out (Nat.le_refl _))
      obtain ⟨q1, q2⟩ := ch_fenced (t := 0) hne
      rw [q1, q2] at KC
      clear q1 q2
      go_wp2_with fail
      with_reducible refine KC.out.mono ?_
      rintro _ w8 ⟨rfl, hd, hf⟩
      have D8 := hid hd
      have A8 := hid (hf.2 _ _ A7.out hWdb (fun cs e => by cases e))
      have C8 := hid (hf.2 _ _ C7.out hcdb (fun cs e => by cases e))
      have G8 := hid (G7.out.trans (hf.1.mono hWB))
      clear hd hf m0 m1 m2 m3 m4 m5 m6 m7 m8 m9 m10 m11 KC
      obtain ⟨m0, m1, m2, m3, m4, m5, m6, m7, m8, m9, m10, m11⟩ := twelve A8.out
      have KC := hid (stage_any w1.heap.size w1.heap.size d ep a.bA a.bc a.bs w8 D8.out (Nat.le_refl _) (HSL.out w8 G8.out).1 (HSL.out w8 G8.out).2.1 (HSL.out w8 G8.out).2.2.2 HNE.out (by omega))
      obtain ⟨q1, q2⟩ := st_fenced (bs := a.bs) hne
      rw [q1, q2] at KC
      clear q1 q2
      go_wp2_with fail
      with_reducible refine KC.out.mono ?_
      rintro _ w9 ⟨rfl, hd, hf⟩
      have D9 := hid hd
      have A9 := hid (hf.2 _ _ A8.out hWdb (fun cs e => by cases e))
      have C9 := hid (hf.2 _ _ C8.out hcdb (fun cs e => by cases e))
      have G9 := hid (G8.out.trans (hf.1.mono hWB))
      clear hd hf m0 m1 m2 m3 m4 m5 m6 m7 m8 m9 m10 m11 KC
      have HQ := hid (fun sum => co_fenced (d := d) (ep := ep) (sum := sum) (from_ := 0) hne)
      clear hne
      go_wp2_with fail
      have KCo := hid (fun (w : World) (hd : DK w w1.heap.size w1.heap.size d) (hT : Tab w) (sum : Int) => (show Calls Tryd.prog 19 #[.pointer (some ⟨w1.heap.size, 0, none⟩), .int .i64 ep, .int .u32 sum, .int .i64 0] w fun e w' => e = .returned (.int .i64 150) ∧ DK w' w1.heap.size w1.heap.size d ∧ Fr w1.heap.size w1.heap.size w w' from by
        have h := commit_any w1.heap.size w1.heap.size d ep sum 0 w hd (Nat.le_refl _) hT
        rw [(HQ.out sum).1, (HQ.out sum).2] at h
        exact h))
      have HX := hid (fun (w' : World) (h : w'.heap[W.heap.size]? = some (.cells #[.int .i64 a.kind, .bool a.near, .int .i64 ep, .int .i64 a.at_, .slice a.bA a.bs.length a.bc, .int .u32 a.sum, .int .i64 a.old.1, .int .i64 a.old.2.1, .int .i64 a.old.2.2, .int .i64 a.c.1, .int .i64 a.c.2.1, .int .i64 a.c.2.2] 35 (0, 0))) => (⟨by rw [cell_of h]; rfl, by rw [cell_of h]; rfl⟩ : w'.cell? ⟨W.heap.size, 2, none⟩ = some (.int .i64 ep) ∧ w'.cell? ⟨W.heap.size, 4, none⟩ = some (.slice a.bA a.bs.length a.bc)))
      have M9 := hid (show w9.drew.heap[W.heap.size]? = _ from A9.out)
      have D9d := hid (D9.out.keep (Below.drew (Below.refl _ w9)))
      have T9d := hid (HT.out.below G9.out.drew h0W)
      have KS := hid (refsum_any a.bA a.bc a.bs w9.drew (HSL.out w9.drew G9.out.drew).1 (by omega))
      go_region_held3 (fun w' => w'.cell? ⟨W.heap.size, 2, none⟩ = some (.int .i64 ep) ∧ w'.cell? ⟨W.heap.size, 4, none⟩ = some (.slice a.bA a.bs.length a.bc)) (first | with_reducible exact HX.out _ M9.out | with_reducible exact HX.out _ A10.out | go_keep)
        ((first | (go_at_call 20; (with_reducible refine KS.out.mono ?_); rintro _ wz ⟨rfl, rfl⟩) | (go_at_call 19; (with_reducible refine (KCo.out _ D9d.out T9d.out _).mono ?_); rintro _ w10 ⟨rfl, hd, hf⟩; have D10 := hid hd; have A10 := hid (hf.2 _ _ M9.out hWdb (fun cs e => by cases e)); have C10 := hid (hf.2 _ _ (show w9.drew.heap[w5.heap.size]? = _ from C9.out) hcdb (fun cs e => by cases e)); have G10 := hid (G9.out.drew.trans (hf.1.mono hWB)); clear hd hf)))
      clear KCo KS HX HQ
      go_wp2_with fail
      have HY := hid (fun (w' : World) (h : w'.heap[w5.heap.size]? = some (.cells #[.int .i64 d.e, .int .i64 d.o, .int .i64 d.u] 27 (0, 0))) => (three h : w'.cell? ⟨w5.heap.size, 0, none⟩ = some (.int .i64 d.e) ∧ w'.cell? ⟨w5.heap.size, 1, none⟩ = some (.int .i64 d.o) ∧ w'.cell? ⟨w5.heap.size, 2, none⟩ = some (.int .i64 d.u)))
      have Y10 := hid (show w10.drew.heap[w5.heap.size]? = _ from C10.out)
      have D10d := hid (D10.out.keep (Below.drew (Below.refl _ w10)))
      have G10d := hid (G10.out.drew)
      go_region_held (fun w' => w'.cell? ⟨w5.heap.size, 0, none⟩ = some (.int .i64 d.e) ∧ w'.cell? ⟨w5.heap.size, 1, none⟩ = some (.int .i64 d.o) ∧ w'.cell? ⟨w5.heap.size, 2, none⟩ = some (.int .i64 d.u)) (first | with_reducible exact HY.out _ Y10.out | with_reducible exact HY.out _ Y13.out | with_reducible exact HY.out _ Y12.out | with_reducible exact HY.out _ Y11.out | go_keep)
        ((first
          | (go_at_call 12; (with_reducible refine (log_any _ _ _ _ D10d.out).mono ?_); rintro _ w11 ⟨v, rfl, ho, hb⟩; obtain ⟨L1, k1, rfl⟩ := ho.slice; have hs11 : (convert 32 9 (.slice L1 d.log.length k1)).run Tryd.prog w11 = .ok (.string s1) w11 := (by rw [HS1.out]; exact str_of k1 ho.bts); have D11 := hid (D10d.out.keep hb); have G11 := hid (below_step G10d.out G10d.out.size hb); have Y11 := hid (keep0 hb Y10.out); clear ho hb)
          | (go_at_call 13; (with_reducible refine (snap_any _ _ _ _ D11.out).mono ?_); rintro _ w12 ⟨v, rfl, ho, hb⟩; obtain ⟨L2, k2, rfl⟩ := ho.slice; have hs12 : (convert 32 9 (.slice L2 d.snap.length k2)).run Tryd.prog w12 = .ok (.string s2) w12 := (by rw [HS2.out]; exact str_of k2 ho.bts); have D12 := hid (D11.out.keep hb); have G12 := hid (below_step G11.out G11.out.size hb); have Y12 := hid (keep0 hb Y11.out); clear ho hb)
          | (go_at_call 14; (with_reducible refine (claim_any _ _ _ _ D12.out).mono ?_); rintro _ w13 ⟨rfl, hb⟩; have G13 := hid (below_step G12.out G12.out.size hb); have Y13 := hid (keep0 hb Y12.out); clear hb)))
      all_goals go_wp2_with fail
      all_goals go_returns
      all_goals exact ⟨by first | rfl | simp, G13.out⟩
    · have hep' : (a.ep == d.e) = false := by simpa using hep
      obtain ⟨ep, hepd⟩ : ∃ ep, ep = a.ep := ⟨_, rfl⟩
      have hne : ep ≠ d.e := by rw [hepd]; exact hep
      have D6 := Da
      have A6 := Aa
      have C6 := Ca
      have G6 := Ga
      obtain ⟨w6, rfl⟩ : ∃ w6, w6 = wa := ⟨_, rfl⟩
      rw [← hepd] at A6
      clear hep
      go_upto_region 12 with (fail)
      clear m0 m1 m2 m3 m4 m5 m6 m7 m8 m9 m10 m11 c0 c1 c2 f2 Da Aa Ca Ga D5 A5 G5 hepd
      obtain ⟨m0, m1, m2, m3, m4, m5, m6, m7, m8, m9, m10, m11⟩ := twelve A6.out
      have KC := hid (append_any w1.heap.size w1.heap.size d ep s1.size a.bA a.bc a.bs w6 D6.out (Nat.le_refl _) (HSL.out w6 G6.out).1 (HSL.out w6 G6.out).2.1 (HSL.out w6 G6.out).2.2.2 HNE.out (by omega))
      obtain ⟨q1, q2, q3⟩ := ap_fenced (at_ := s1.size) (bs := a.bs) hne
      rw [q1, q2, q3] at KC
      clear q1 q2 q3
      go_wp2_with fail
      with_reducible refine KC.out.mono ?_
      rintro _ w7 ⟨rfl, hd, hf⟩
      have D7 := hid hd
      have A7 := hid (hf.2 _ _ A6.out hWdb (fun cs e => by cases e))
      have C7 := hid (hf.2 _ _ C6.out hcdb (fun cs e => by cases e))
      have G7 := hid (G6.out.trans (hf.1.mono hWB))
      clear hd hf m0 m1 m2 m3 m4 m5 m6 m7 m8 m9 m10 m11 KC
      obtain ⟨m0, m1, m2, m3, m4, m5, m6, m7, m8, m9, m10, m11⟩ := twelve A7.out
      have KC := hid (chop_any w1.heap.size w1.heap.size d ep 0 w7 D7.out (Nat.le_refl _))
      obtain ⟨q1, q2⟩ := ch_fenced (t := 0) hne
      rw [q1, q2] at KC
      clear q1 q2
      go_wp2_with fail
      with_reducible refine KC.out.mono ?_
      rintro _ w8 ⟨rfl, hd, hf⟩
      have D8 := hid hd
      have A8 := hid (hf.2 _ _ A7.out hWdb (fun cs e => by cases e))
      have C8 := hid (hf.2 _ _ C7.out hcdb (fun cs e => by cases e))
      have G8 := hid (G7.out.trans (hf.1.mono hWB))
      clear hd hf m0 m1 m2 m3 m4 m5 m6 m7 m8 m9 m10 m11 KC
      obtain ⟨m0, m1, m2, m3, m4, m5, m6, m7, m8, m9, m10, m11⟩ := twelve A8.out
      have KC := hid (stage_any w1.heap.size w1.heap.size d ep a.bA a.bc a.bs w8 D8.out (Nat.le_refl _) (HSL.out w8 G8.out).1 (HSL.out w8 G8.out).2.1 (HSL.out w8 G8.out).2.2.2 HNE.out (by omega))
      obtain ⟨q1, q2⟩ := st_fenced (bs := a.bs) hne
      rw [q1, q2] at KC
      clear q1 q2
      go_wp2_with fail
      with_reducible refine KC.out.mono ?_
      rintro _ w9 ⟨rfl, hd, hf⟩
      have D9 := hid hd
      have A9 := hid (hf.2 _ _ A8.out hWdb (fun cs e => by cases e))
      have C9 := hid (hf.2 _ _ C8.out hcdb (fun cs e => by cases e))
      have G9 := hid (G8.out.trans (hf.1.mono hWB))
      clear hd hf m0 m1 m2 m3 m4 m5 m6 m7 m8 m9 m10 m11 KC
      have HQ := hid (fun sum => co_fenced (d := d) (ep := ep) (sum := sum) (from_ := 0) hne)
      clear hne
      go_wp2_with fail
      have KCo := hid (fun (w : World) (hd : DK w w1.heap.size w1.heap.size d) (hT : Tab w) (sum : Int) => (show Calls Tryd.prog 19 #[.pointer (some ⟨w1.heap.size, 0, none⟩), .int .i64 ep, .int .u32 sum, .int .i64 0] w fun e w' => e = .returned (.int .i64 150) ∧ DK w' w1.heap.size w1.heap.size d ∧ Fr w1.heap.size w1.heap.size w w' from by
        have h := commit_any w1.heap.size w1.heap.size d ep sum 0 w hd (Nat.le_refl _) hT
        rw [(HQ.out sum).1, (HQ.out sum).2] at h
        exact h))
      have HX := hid (fun (w' : World) (h : w'.heap[W.heap.size]? = some (.cells #[.int .i64 a.kind, .bool a.near, .int .i64 ep, .int .i64 a.at_, .slice a.bA a.bs.length a.bc, .int .u32 a.sum, .int .i64 a.old.1, .int .i64 a.old.2.1, .int .i64 a.old.2.2, .int .i64 a.c.1, .int .i64 a.c.2.1, .int .i64 a.c.2.2] 35 (0, 0))) => (⟨by rw [cell_of h]; rfl, by rw [cell_of h]; rfl⟩ : w'.cell? ⟨W.heap.size, 2, none⟩ = some (.int .i64 ep) ∧ w'.cell? ⟨W.heap.size, 4, none⟩ = some (.slice a.bA a.bs.length a.bc)))
      have M9 := hid (show w9.drew.heap[W.heap.size]? = _ from A9.out)
      have D9d := hid (D9.out.keep (Below.drew (Below.refl _ w9)))
      have T9d := hid (HT.out.below G9.out.drew h0W)
      have KS := hid (refsum_any a.bA a.bc a.bs w9.drew (HSL.out w9.drew G9.out.drew).1 (by omega))
      go_region_held3 (fun w' => w'.cell? ⟨W.heap.size, 2, none⟩ = some (.int .i64 ep) ∧ w'.cell? ⟨W.heap.size, 4, none⟩ = some (.slice a.bA a.bs.length a.bc)) (first | with_reducible exact HX.out _ M9.out | with_reducible exact HX.out _ A10.out | go_keep)
        ((first | (go_at_call 20; (with_reducible refine KS.out.mono ?_); rintro _ wz ⟨rfl, rfl⟩) | (go_at_call 19; (with_reducible refine (KCo.out _ D9d.out T9d.out _).mono ?_); rintro _ w10 ⟨rfl, hd, hf⟩; have D10 := hid hd; have A10 := hid (hf.2 _ _ M9.out hWdb (fun cs e => by cases e)); have C10 := hid (hf.2 _ _ (show w9.drew.heap[w5.heap.size]? = _ from C9.out) hcdb (fun cs e => by cases e)); have G10 := hid (G9.out.drew.trans (hf.1.mono hWB)); clear hd hf)))
      clear KCo KS HX HQ
      go_wp2_with fail
      have HY := hid (fun (w' : World) (h : w'.heap[w5.heap.size]? = some (.cells #[.int .i64 d.e, .int .i64 d.o, .int .i64 d.u] 27 (0, 0))) => (three h : w'.cell? ⟨w5.heap.size, 0, none⟩ = some (.int .i64 d.e) ∧ w'.cell? ⟨w5.heap.size, 1, none⟩ = some (.int .i64 d.o) ∧ w'.cell? ⟨w5.heap.size, 2, none⟩ = some (.int .i64 d.u)))
      have Y10 := hid (show w10.drew.heap[w5.heap.size]? = _ from C10.out)
      have D10d := hid (D10.out.keep (Below.drew (Below.refl _ w10)))
      have G10d := hid (G10.out.drew)
      go_region_held (fun w' => w'.cell? ⟨w5.heap.size, 0, none⟩ = some (.int .i64 d.e) ∧ w'.cell? ⟨w5.heap.size, 1, none⟩ = some (.int .i64 d.o) ∧ w'.cell? ⟨w5.heap.size, 2, none⟩ = some (.int .i64 d.u)) (first | with_reducible exact HY.out _ Y10.out | with_reducible exact HY.out _ Y13.out | with_reducible exact HY.out _ Y12.out | with_reducible exact HY.out _ Y11.out | go_keep)
        ((first
          | (go_at_call 12; (with_reducible refine (log_any _ _ _ _ D10d.out).mono ?_); rintro _ w11 ⟨v, rfl, ho, hb⟩; obtain ⟨L1, k1, rfl⟩ := ho.slice; have hs11 : (convert 32 9 (.slice L1 d.log.length k1)).run Tryd.prog w11 = .ok (.string s1) w11 := (by rw [HS1.out]; exact str_of k1 ho.bts); have D11 := hid (D10d.out.keep hb); have G11 := hid (below_step G10d.out G10d.out.size hb); have Y11 := hid (keep0 hb Y10.out); clear ho hb)
          | (go_at_call 13; (with_reducible refine (snap_any _ _ _ _ D11.out).mono ?_); rintro _ w12 ⟨v, rfl, ho, hb⟩; obtain ⟨L2, k2, rfl⟩ := ho.slice; have hs12 : (convert 32 9 (.slice L2 d.snap.length k2)).run Tryd.prog w12 = .ok (.string s2) w12 := (by rw [HS2.out]; exact str_of k2 ho.bts); have D12 := hid (D11.out.keep hb); have G12 := hid (below_step G11.out G11.out.size hb); have Y12 := hid (keep0 hb Y11.out); clear ho hb)
          | (go_at_call 14; (with_reducible refine (claim_any _ _ _ _ D12.out).mono ?_); rintro _ w13 ⟨rfl, hb⟩; have G13 := hid (below_step G12.out G12.out.size hb); have Y13 := hid (keep0 hb Y12.out); clear hb)))
      all_goals go_wp2_with fail
      all_goals go_returns
      all_goals exact ⟨by first | rfl | simp, G13.out⟩
end Go.Proofs.YtbpgeghenninnaaDoor
