/- The Go function LeaseRenews, called with any arguments, returns true and leaves all that was there. Condition: none. -/
import Derived.Test.YthbbempmppnpkaaOpen
import Derived.Test.YthbbempmppnpkaaRows
import Derived.Deep.RegionHeld3
import Derived.Deep.DeepCutAuto
namespace Go.Proofs.Ythbbempmppnpkaa
open Go Go.ChangeShapes Go.WideShapes Go.RowKit
open Classical in
theorem renewF_no {D c : Clm} {t : Int} (h : tickB t = false) : renewF D c t = (⟨0, 0, 0⟩, 1) := by unfold renewF; rw [if_pos h]
theorem renewF_lapse {D c : Clm} {t : Int} (h : tickB t = true) (h1 : leadsB c t = false) : renewF D c t = (⟨0, 0, 0⟩, 171) := by unfold renewF; rw [if_neg (by rw [h]; simp), if_pos h1]
theorem renewF_arg {D c : Clm} {t : Int} (h : tickB t = true) (h1 : leadsB c t = true) (h2 : 1099511627776 < c.e) : renewF D c t = (⟨0, 0, 0⟩, 1) := by unfold renewF; rw [if_neg (by rw [h]; simp), if_neg (by rw [h1]; simp), if_pos h2]
theorem renewF_fenced {D c : Clm} {t : Int} (h : tickB t = true) (h1 : leadsB c t = true) (h2 : ¬ 1099511627776 < c.e) (h3 : D ≠ c) : renewF D c t = (⟨0, 0, 0⟩, 150) := by unfold renewF; rw [if_neg (by rw [h]; simp), if_neg (by rw [h1]; simp), if_neg h2, if_neg h3]
theorem nextF_is (c : Clm) (t : Int) : nextF c t = ⟨c.e, c.w, nextU c.u t⟩ := by
  unfold nextF nextU
  congr 1
  split <;> omega
theorem renewF_ok {c : Clm} {t : Int} (h : tickB t = true) (h1 : leadsB c t = true) (h2 : ¬ 1099511627776 < c.e) : renewF c c t = (⟨c.e, c.w, nextU c.u t⟩, 0) := by
  unfold renewF
  rw [if_neg (by rw [h]; simp), if_neg (by rw [h1]; simp), if_neg h2, if_pos rfl, nextF_is]
theorem tick_cases (t : Int) : tickB t = false ∨ tickB t = true := by cases tickB t <;> simp
theorem leads_cases (c : Clm) (t : Int) : leadsB c t = false ∨ leadsB c t = true := by cases leadsB c t <;> simp
open Classical in
theorem renew_any (db : Nat) (D c : Clm) (t : Int) (w : World) (hd : DK w db D) :
    Calls Try.prog 15 #[.pointer (some ⟨db, 0, none⟩), .agg c.cells, .int .i64 t] w fun e w' => e = .returned (.tuple #[.agg (renewF D c t).1.cells, .int .i64 (renewF D c t).2]) ∧ DK w' db (if (renewF D c t).2 = 0 then (renewF D c t).1 else D) ∧ w.grownBy w' (some db) := by
  rcases tick_cases t with ht | ht
  · rw [renewF_no ht]
    refine (renew_no db c t w ht).mono ?_
    rintro e w' ⟨he, hb⟩
    exact ⟨he, hd.keep hb, grown_below hb _⟩
  · rcases leads_cases c t with hl | hl
    · rw [renewF_lapse ht hl]
      refine (renew_lapse db c t w ht hl).mono ?_
      rintro e w' ⟨he, hb⟩
      exact ⟨he, hd.keep hb, grown_below hb _⟩
    · by_cases h2 : 1099511627776 < c.e
      · rw [renewF_arg ht hl h2]
        refine (renew_ref db c t 1 w ht hl (by decide) (fun w' _ => swap_arg db c _ w' (.inr h2))).mono ?_
        rintro e w' ⟨he, hb⟩
        exact ⟨he, hd.keep hb, grown_below hb _⟩
      · by_cases h3 : D = c
        · subst h3
          rw [renewF_ok ht hl h2]
          exact renew_ok db D t w ht hl hd h2
        · rw [renewF_fenced ht hl h2 h3]
          refine (renew_ref db c t 150 w ht hl (by decide) (fun w' hb => swap_fenced db D c _ w' (hd.keep hb) (by simp) h2 h3)).mono ?_
          rintro e w' ⟨he, hb⟩
          exact ⟨he, hd.keep hb, grown_below hb _⟩
theorem refrenew_any (D c : Clm) (t : Int) (w : World) :
    Calls Try.prog 16 #[.agg D.cells, .agg c.cells, .int .i64 t] w fun e w' => e = .returned (.tuple #[.agg (renewF D c t).1.cells, .int .i64 (renewF D c t).2]) ∧ Below w.heap.size w w' := by
  rcases tick_cases t with ht | ht
  · rw [renewF_no ht]
    exact refrenew_no D c t w ht
  · rcases leads_cases c t with hl | hl
    · rw [renewF_lapse ht hl]
      exact refrenew_lapse D c t w ht hl
    · by_cases h2 : 1099511627776 < c.e
      · rw [renewF_arg ht hl h2]
        exact refrenew_arg D c t w ht hl h2
      · by_cases h3 : D = c
        · subst h3
          rw [renewF_ok ht hl h2]
          exact refrenew_ok D t w ht hl h2
        · rw [renewF_fenced ht hl h2 h3]
          exact refrenew_fenced D c t w ht hl h2 h3
theorem cells_at {W w : World} {B : Nat} {a0 a1 a2 : Value} {T : TypeId} (h : W.heap[B]? = some (.cells #[a0, a1, a2] T (0, 0))) (hb : Below W.heap.size W w) : w.cell? ⟨B, 0, none⟩ = some a0 ∧ w.cell? ⟨B, 1, none⟩ = some a1 ∧ w.cell? ⟨B, 2, none⟩ = some a2 := three (keep0 hb h)
set_option maxRecDepth 10000 in
set_option maxHeartbeats 2000000 in
theorem leaseRenews_walk {H : Type} {enc : TypeId × Value → H} (W : World) (base : Nat) (args : Array Value) (ds : List (DataW H))
    (hval : ∀ (j : Nat) t v, Try.f4.params[j]? = some t → args[j]? = some v → Value.okWide Try.prog W .any base t v)
    (hA : ∃ p, DataW.TrodAll enc Try.prog W 0 (fun _ => true) true Try.f4.params.toList args.toList ds p) 
    (_ : (DataW.weightsEach Try.prog (Try.f4.params.toList ++ (OpenSpec.ofChange Rows.leaseRenewsSpec).bare.plain.varTypes Try.prog) (ds ++ [])).all (· ≤ reachBytes) = true)
    (_ : laidMetH Try.prog Rows.leaseRenewsRow.laid W) (_ : W.ShapedOpen Try.prog) :
    Calls Try.prog 4 args W fun e W' => e = .returned (.bool true) ∧ Below W.heap.size W W' := by
  obtain ⟨p, hA⟩ := hA
  rw [Try.params4] at hA hval
  obtain ⟨v0, v1, v2, d0, d1, d2, p0, p1, p2, hargs, rfl, rfl, h0, h1, h2⟩ := trodAll_three hA
  subst hargs
  obtain ⟨o, rfl, ho⟩ := clm_is (hval 0 23 v0 rfl rfl) h0
  obtain ⟨c, rfl, hc⟩ := clm_is (hval 1 23 v1 rfl rfl) h1
  obtain ⟨t, rfl, _, _, wt⟩ := open_int Try.underlying3 (hval 2 3 v2 rfl rfl) h2
  clear h0 h1 h2 hval hA wt hc ho
  by_cases hbad : o.e < 0 ∨ 1099511627776 < o.e
  · obtain ⟨D, hD⟩ : ∃ D : Clm, D = ⟨0, 0, 0⟩ := ⟨_, rfl⟩
    have KN : Hid (∀ w, Calls Try.prog 9 #[.int .i64 9] w fun e w' => e = .returned (.pointer (some ⟨w.heap.size, 0, none⟩)) ∧ DK w' w.heap.size D ∧ Below w.heap.size w w') := hid fun w => by rw [hD]; exact new_any w
    have KS := hid (fun db w => swap_arg db ⟨0, 0, 0⟩ o w hbad)
    have KC := hid (fun db w h => claim_any db D w h)
    have KT := hid (fun db w h => renew_any db D c t w h)
    have KF := hid (fun w => refrenew_any D c t w)
    have KL := hid (fun w => leads_any c t w)
    have KM := hid (fun w => refleads_any c t w)
    generalize leadsB c t = lb at *
    generalize renewF D c t = T at *
    obtain ⟨⟨re, rw, ru⟩, code⟩ := T
    obtain ⟨e, wh, u⟩ := c
    obtain ⟨de, dw, du⟩ := D
    obtain ⟨oe, ow, ou⟩ := o
    simp only [Clm.cells] at *
    clear hD hbad
    go_enter Try.func4, Try.ntmps4
    go_wp2_with fail
    refine (awake_any _).mono ?_
    rintro _ w1 ⟨rfl, hbb⟩
    obtain ⟨hbo, hbc⟩ := two_of hbb
    have O1 := hid hbo
    have B1 := hid hbc
    have g1 := hid (show Below W.heap.size W w1 from below_step (by go_grown) (by simp; omega) hbb)
    clear hbb hbo hbc
    go_wp2_with fail
    refine (KN.out _).mono ?_
    rintro _ w2 ⟨rfl, hd, hb⟩
    have O2 := hid (keep0 hb O1.out)
    have B2 := hid (keep0 hb B1.out)
    have D2 := hid hd
    have g2 := hid (below_step g1.out g1.out.size hb)
    have hlt2 := lt_of B1.out
    obtain ⟨b3, b4, b5⟩ := three O2.out
    clear hb hd
    go_wp2_with fail
    refine (KS.out _ _).mono ?_
    rintro _ w3 ⟨rfl, hb⟩
    have B3 := hid (keep0 hb B2.out)
    have D3 := hid (D2.out.keep hb)
    have g3 := hid (below_step g2.out g2.out.size hb)
    clear hb b3 b4 b5
    go_wp2_with fail
    refine (KC.out _ _ D3.out).mono ?_
    rintro _ w4 ⟨rfl, hb⟩
    have B4 := hid (heapA (o := .cells #[.int .i64 de, .int .i64 dw, .int .i64 du] 23) (keep0 hb B3.out))
    have A4 := hid (heap_new w4 (.cells #[.int .i64 de, .int .i64 dw, .int .i64 du] 23))
    have D4 := hid ((D3.out.keep hb).keep (show Below w4.heap.size w4 (w4.alloc (.cells #[.int .i64 de, .int .i64 dw, .int .i64 du] 23)) from by go_grown))
    have g4 := hid ((below_step g3.out g3.out.size hb).alloc (by have := g3.out.size; have := hb.size; omega) (.cells #[.int .i64 de, .int .i64 dw, .int .i64 du] 23))
    have hlt4 : w1.heap.size < w4.heap.size := Nat.lt_of_lt_of_le (lt_of D3.out) hb.size
    obtain ⟨k0, k1, k2⟩ := three B4.out
    clear hb
    go_wp2_with fail
    refine (KT.out _ _ D4.out).mono ?_
    rintro _ w5 ⟨rfl, hd, hg⟩
    have B5 := hid (heapA (o := .cells #[.int .i64 re, .int .i64 rw, .int .i64 ru] 23) (keepG hg B4.out (by omega)))
    have A5 := hid (heapA (o := .cells #[.int .i64 re, .int .i64 rw, .int .i64 ru] 23) (keepG hg A4.out (by omega)))
    have C5 := hid (heap_new w5 (.cells #[.int .i64 re, .int .i64 rw, .int .i64 ru] 23))
    have D5 := hid (DK.keep hd (show Below w5.heap.size w5 (w5.alloc (.cells #[.int .i64 re, .int .i64 rw, .int .i64 ru] 23)) from by go_grown))
    have g5 := hid ((Below.grown g4.out hg g4.out.size (fun k hk => by cases hk; exact g1.out.size)).alloc (by have := g4.out.size; have := hg.size; omega) (.cells #[.int .i64 re, .int .i64 rw, .int .i64 ru] 23))
    have hlt5 : w4.heap.size < w5.heap.size := by have := hg.size; simp at this; omega
    obtain ⟨a0, a1, a2⟩ := three A5.out
    obtain ⟨b0, b1, b2⟩ := three B5.out
    clear hd hg k0 k1 k2
    go_wp2_with fail
    refine (KF.out _).mono ?_
    rintro _ w6 ⟨rfl, hb⟩
    have B6 := hid (heapA (o := .cells #[.int .i64 re, .int .i64 rw, .int .i64 ru] 23) (keep0 hb B5.out))
    have A6 := hid (heapA (o := .cells #[.int .i64 re, .int .i64 rw, .int .i64 ru] 23) (keep0 hb A5.out))
    have C6 := hid (heapA (o := .cells #[.int .i64 re, .int .i64 rw, .int .i64 ru] 23) (keep0 hb C5.out))
    have E6 := hid (heap_new w6 (.cells #[.int .i64 re, .int .i64 rw, .int .i64 ru] 23))
    have D6 := hid ((D5.out.keep hb).keep (show Below w6.heap.size w6 (w6.alloc (.cells #[.int .i64 re, .int .i64 rw, .int .i64 ru] 23)) from by go_grown))
    have g6 := hid ((below_step g5.out g5.out.size hb).alloc (by have := g5.out.size; have := hb.size; omega) (.cells #[.int .i64 re, .int .i64 rw, .int .i64 ru] 23))
    have hlt6 : w5.heap.size < w6.heap.size := by have := hb.size; simp at this; omega
    clear hb a0 a1 a2 b0 b1 b2
    go_upto_region 9 with fail
    obtain ⟨wz, hwz⟩ : ∃ wz, wz = w6.alloc (.cells #[.int .i64 re, .int .i64 rw, .int .i64 ru] 23) := ⟨_, rfl⟩
    have hzz : wz.heap.size = w6.heap.size + 1 := by rw [hwz]; simp
    rw [← hwz] at B6 A6 C6 E6 D6 g6 ⊢
    clear hwz
    have H0 := hid (show Below wz.heap.size wz (World.drew wz) from (Below.refl _ _).drew)
    have HX : Hid (∀ w', Below wz.heap.size wz w' → (w'.cell? ⟨w5.heap.size, 0, none⟩ = some (.int .i64 re) ∧ w'.cell? ⟨w5.heap.size, 1, none⟩ = some (.int .i64 rw) ∧ w'.cell? ⟨w5.heap.size, 2, none⟩ = some (.int .i64 ru)) ∧ (w'.cell? ⟨w6.heap.size, 0, none⟩ = some (.int .i64 re) ∧ w'.cell? ⟨w6.heap.size, 1, none⟩ = some (.int .i64 rw) ∧ w'.cell? ⟨w6.heap.size, 2, none⟩ = some (.int .i64 ru)) ∧ (w'.cell? ⟨W.heap.size + 1, 0, none⟩ = some (.int .i64 e) ∧ w'.cell? ⟨W.heap.size + 1, 1, none⟩ = some (.int .i64 wh) ∧ w'.cell? ⟨W.heap.size + 1, 2, none⟩ = some (.int .i64 u))) := hid fun w' h => ⟨cells_at C6.out h, cells_at E6.out h, cells_at B6.out h⟩
    go_cut [54] (fun v wx => v = .bool false ∧ Below wz.heap.size wz wx)
    case first =>
      go_wp2_with fail
      go_region_held3 (fun w' => (w'.cell? ⟨w5.heap.size, 0, none⟩ = some (.int .i64 re) ∧ w'.cell? ⟨w5.heap.size, 1, none⟩ = some (.int .i64 rw) ∧ w'.cell? ⟨w5.heap.size, 2, none⟩ = some (.int .i64 ru)) ∧ (w'.cell? ⟨w6.heap.size, 0, none⟩ = some (.int .i64 re) ∧ w'.cell? ⟨w6.heap.size, 1, none⟩ = some (.int .i64 rw) ∧ w'.cell? ⟨w6.heap.size, 2, none⟩ = some (.int .i64 ru)) ∧ (w'.cell? ⟨W.heap.size + 1, 0, none⟩ = some (.int .i64 e) ∧ w'.cell? ⟨W.heap.size + 1, 1, none⟩ = some (.int .i64 wh) ∧ w'.cell? ⟨W.heap.size + 1, 2, none⟩ = some (.int .i64 u))) (first | exact HX.out _ H0.out | exact HX.out _ H7.out | exact HX.out _ H8.out | go_keep)
        (first
          | (go_at_call 14; refine (KL.out (World.drew wz)).mono ?_; rintro _ w7 ⟨rfl, hb⟩; have H7 := hid (below_step H0.out H0.out.size hb); clear hb)
          | (go_at_call 17; refine (KM.out w7).mono ?_; rintro _ w8 ⟨rfl, hb⟩; have H8 := hid (below_step H7.out H7.out.size hb); clear hb))
      all_goals
        go_wp2_with fail
        all_goals go_meet
        all_goals exact ⟨by first | rfl | simp, H8.out⟩
    case rest =>
      obtain ⟨rfl, hbz⟩ := hcut
      have HZ := hid hbz
      clear hbz
      by_cases h0 : code = 0
      · have KD : Hid (∀ w', Below wz.heap.size wz w' → Calls Try.prog 11 #[.pointer (some ⟨w1.heap.size, 0, none⟩)] w' fun en w'' => en = .returned (.agg #[.int .i64 re, .int .i64 rw, .int .i64 ru]) ∧ Below w'.heap.size w' w'') := hid fun w' h => by
          have k := claim_any _ _ w' (D6.out.keep h)
          rw [if_pos h0] at k
          exact k
        have HY : Hid (∀ w', Below wz.heap.size wz w' → w'.cell? ⟨w5.heap.size, 0, none⟩ = some (.int .i64 re) ∧ w'.cell? ⟨w5.heap.size, 1, none⟩ = some (.int .i64 rw) ∧ w'.cell? ⟨w5.heap.size, 2, none⟩ = some (.int .i64 ru)) := hid fun w' h => cells_at C6.out h
        subst h0
        go_wp2_with fail
        have H9 := hid HZ.out.drew
        go_region_held3 (fun w' => w'.cell? ⟨w5.heap.size, 0, none⟩ = some (.int .i64 re) ∧ w'.cell? ⟨w5.heap.size, 1, none⟩ = some (.int .i64 rw) ∧ w'.cell? ⟨w5.heap.size, 2, none⟩ = some (.int .i64 ru)) (first | exact HY.out _ H9.out | exact HY.out _ HA.out | go_keep)
          ((go_at_call 11; refine (KD.out (World.drew wc) H9.out).mono ?_; rintro _ wa ⟨rfl, hb⟩; have HA := hid (below_step H9.out H9.out.size hb); clear hb))
        all_goals
          go_wp2_with fail
          all_goals go_returns
          all_goals exact ⟨by first | rfl | simp, below_step g6.out g6.out.size HA.out⟩
      · have KD : Hid (∀ w', Below wz.heap.size wz w' → Calls Try.prog 11 #[.pointer (some ⟨w1.heap.size, 0, none⟩)] w' fun en w'' => en = .returned (.agg #[.int .i64 de, .int .i64 dw, .int .i64 du]) ∧ Below w'.heap.size w' w'') := hid fun w' h => by
          have k := claim_any _ _ w' (D6.out.keep h)
          rw [if_neg h0] at k
          exact k
        have HY : Hid (∀ w', Below wz.heap.size wz w' → w'.cell? ⟨w4.heap.size, 0, none⟩ = some (.int .i64 de) ∧ w'.cell? ⟨w4.heap.size, 1, none⟩ = some (.int .i64 dw) ∧ w'.cell? ⟨w4.heap.size, 2, none⟩ = some (.int .i64 du)) := hid fun w' h => cells_at A6.out h
        have z : (code != 0) = true := by simpa using h0
        clear h0
        go_wp2_with fail
        have H9 := hid HZ.out.drew
        go_region_held3 (fun w' => w'.cell? ⟨w4.heap.size, 0, none⟩ = some (.int .i64 de) ∧ w'.cell? ⟨w4.heap.size, 1, none⟩ = some (.int .i64 dw) ∧ w'.cell? ⟨w4.heap.size, 2, none⟩ = some (.int .i64 du)) (first | exact HY.out _ H9.out | exact HY.out _ HA.out | go_keep)
          ((go_at_call 11; refine (KD.out (World.drew wc) H9.out).mono ?_; rintro _ wa ⟨rfl, hb⟩; have HA := hid (below_step H9.out H9.out.size hb); clear hb))
        all_goals
          go_wp2_with fail
          all_goals go_returns
          all_goals exact ⟨by first | rfl | simp, below_step g6.out g6.out.size HA.out⟩
  · obtain ⟨D, hD⟩ : ∃ D : Clm, D = o := ⟨_, rfl⟩
    have KN := hid (fun w => new_any w)
    have KS := hid (fun db w h => swap_ok db ⟨0, 0, 0⟩ o w h (fun h => hbad (.inl h)) (fun h => hbad (.inr h)))
    have KC := hid (fun db w h => claim_any db D w h)
    have KT := hid (fun db w h => renew_any db D c t w h)
    have KF := hid (fun w => refrenew_any D c t w)
    have KL := hid (fun w => leads_any c t w)
    have KM := hid (fun w => refleads_any c t w)
    generalize leadsB c t = lb at *
    generalize renewF D c t = T at *
    obtain ⟨⟨re, rw, ru⟩, code⟩ := T
    obtain ⟨e, wh, u⟩ := c
    subst hD
    obtain ⟨oe, ow, ou⟩ := D
    simp only [Clm.cells] at *
    clear hbad
    go_enter Try.func4, Try.ntmps4
    go_wp2_with fail
    refine (awake_any _).mono ?_
    rintro _ w1 ⟨rfl, hbb⟩
    obtain ⟨hbo, hbc⟩ := two_of hbb
    have O1 := hid hbo
    have B1 := hid hbc
    have g1 := hid (show Below W.heap.size W w1 from below_step (by go_grown) (by simp; omega) hbb)
    clear hbb hbo hbc
    go_wp2_with fail
    refine (KN.out _).mono ?_
    rintro _ w2 ⟨rfl, hd, hb⟩
    have O2 := hid (keep0 hb O1.out)
    have B2 := hid (keep0 hb B1.out)
    have D2 := hid hd
    have g2 := hid (below_step g1.out g1.out.size hb)
    have hlt2 := lt_of B1.out
    obtain ⟨b3, b4, b5⟩ := three O2.out
    clear hb hd
    go_wp2_with fail
    refine (KS.out _ _ D2.out).mono ?_
    rintro _ w3 ⟨rfl, hd, hg⟩
    have B3 := hid (keepG hg B2.out (by omega))
    have D3 := hid hd
    have g3 := hid (Below.grown g2.out hg g2.out.size (fun k hk => by cases hk; exact g1.out.size))
    clear hg hd b3 b4 b5
    go_wp2_with fail
    refine (KC.out _ _ D3.out).mono ?_
    rintro _ w4 ⟨rfl, hb⟩
    have B4 := hid (heapA (o := .cells #[.int .i64 oe, .int .i64 ow, .int .i64 ou] 23) (keep0 hb B3.out))
    have A4 := hid (heap_new w4 (.cells #[.int .i64 oe, .int .i64 ow, .int .i64 ou] 23))
    have D4 := hid ((D3.out.keep hb).keep (show Below w4.heap.size w4 (w4.alloc (.cells #[.int .i64 oe, .int .i64 ow, .int .i64 ou] 23)) from by go_grown))
    have g4 := hid ((below_step g3.out g3.out.size hb).alloc (by have := g3.out.size; have := hb.size; omega) (.cells #[.int .i64 oe, .int .i64 ow, .int .i64 ou] 23))
    have hlt4 : w1.heap.size < w4.heap.size := Nat.lt_of_lt_of_le (lt_of D3.out) hb.size
    obtain ⟨k0, k1, k2⟩ := three B4.out
    clear hb
    go_wp2_with fail
    refine (KT.out _ _ D4.out).mono ?_
    rintro _ w5 ⟨rfl, hd, hg⟩
    have B5 := hid (heapA (o := .cells #[.int .i64 re, .int .i64 rw, .int .i64 ru] 23) (keepG hg B4.out (by omega)))
    have A5 := hid (heapA (o := .cells #[.int .i64 re, .int .i64 rw, .int .i64 ru] 23) (keepG hg A4.out (by omega)))
    have C5 := hid (heap_new w5 (.cells #[.int .i64 re, .int .i64 rw, .int .i64 ru] 23))
    have D5 := hid (DK.keep hd (show Below w5.heap.size w5 (w5.alloc (.cells #[.int .i64 re, .int .i64 rw, .int .i64 ru] 23)) from by go_grown))
    have g5 := hid ((Below.grown g4.out hg g4.out.size (fun k hk => by cases hk; exact g1.out.size)).alloc (by have := g4.out.size; have := hg.size; omega) (.cells #[.int .i64 re, .int .i64 rw, .int .i64 ru] 23))
    have hlt5 : w4.heap.size < w5.heap.size := by have := hg.size; simp at this; omega
    obtain ⟨a0, a1, a2⟩ := three A5.out
    obtain ⟨b0, b1, b2⟩ := three B5.out
    clear hd hg k0 k1 k2
    go_wp2_with fail
    refine (KF.out _).mono ?_
    rintro _ w6 ⟨rfl, hb⟩
    have B6 := hid (heapA (o := .cells #[.int .i64 re, .int .i64 rw, .int .i64 ru] 23) (keep0 hb B5.out))
    have A6 := hid (heapA (o := .cells #[.int .i64 re, .int .i64 rw, .int .i64 ru] 23) (keep0 hb A5.out))
    have C6 := hid (heapA (o := .cells #[.int .i64 re, .int .i64 rw, .int .i64 ru] 23) (keep0 hb C5.out))
    have E6 := hid (heap_new w6 (.cells #[.int .i64 re, .int .i64 rw, .int .i64 ru] 23))
    have D6 := hid ((D5.out.keep hb).keep (show Below w6.heap.size w6 (w6.alloc (.cells #[.int .i64 re, .int .i64 rw, .int .i64 ru] 23)) from by go_grown))
    have g6 := hid ((below_step g5.out g5.out.size hb).alloc (by have := g5.out.size; have := hb.size; omega) (.cells #[.int .i64 re, .int .i64 rw, .int .i64 ru] 23))
    have hlt6 : w5.heap.size < w6.heap.size := by have := hb.size; simp at this; omega
    clear hb a0 a1 a2 b0 b1 b2
    go_upto_region 9 with fail
    obtain ⟨wz, hwz⟩ : ∃ wz, wz = w6.alloc (.cells #[.int .i64 re, .int .i64 rw, .int .i64 ru] 23) := ⟨_, rfl⟩
    have hzz : wz.heap.size = w6.heap.size + 1 := by rw [hwz]; simp
    rw [← hwz] at B6 A6 C6 E6 D6 g6 ⊢
    clear hwz
    have H0 := hid (show Below wz.heap.size wz (World.drew wz) from (Below.refl _ _).drew)
    have HX : Hid (∀ w', Below wz.heap.size wz w' → (w'.cell? ⟨w5.heap.size, 0, none⟩ = some (.int .i64 re) ∧ w'.cell? ⟨w5.heap.size, 1, none⟩ = some (.int .i64 rw) ∧ w'.cell? ⟨w5.heap.size, 2, none⟩ = some (.int .i64 ru)) ∧ (w'.cell? ⟨w6.heap.size, 0, none⟩ = some (.int .i64 re) ∧ w'.cell? ⟨w6.heap.size, 1, none⟩ = some (.int .i64 rw) ∧ w'.cell? ⟨w6.heap.size, 2, none⟩ = some (.int .i64 ru)) ∧ (w'.cell? ⟨W.heap.size + 1, 0, none⟩ = some (.int .i64 e) ∧ w'.cell? ⟨W.heap.size + 1, 1, none⟩ = some (.int .i64 wh) ∧ w'.cell? ⟨W.heap.size + 1, 2, none⟩ = some (.int .i64 u))) := hid fun w' h => ⟨cells_at C6.out h, cells_at E6.out h, cells_at B6.out h⟩
    go_cut [54] (fun v wx => v = .bool false ∧ Below wz.heap.size wz wx)
    case first =>
      go_wp2_with fail
      go_region_held3 (fun w' => (w'.cell? ⟨w5.heap.size, 0, none⟩ = some (.int .i64 re) ∧ w'.cell? ⟨w5.heap.size, 1, none⟩ = some (.int .i64 rw) ∧ w'.cell? ⟨w5.heap.size, 2, none⟩ = some (.int .i64 ru)) ∧ (w'.cell? ⟨w6.heap.size, 0, none⟩ = some (.int .i64 re) ∧ w'.cell? ⟨w6.heap.size, 1, none⟩ = some (.int .i64 rw) ∧ w'.cell? ⟨w6.heap.size, 2, none⟩ = some (.int .i64 ru)) ∧ (w'.cell? ⟨W.heap.size + 1, 0, none⟩ = some (.int .i64 e) ∧ w'.cell? ⟨W.heap.size + 1, 1, none⟩ = some (.int .i64 wh) ∧ w'.cell? ⟨W.heap.size + 1, 2, none⟩ = some (.int .i64 u))) (first | exact HX.out _ H0.out | exact HX.out _ H7.out | exact HX.out _ H8.out | go_keep)
        (first
          | (go_at_call 14; refine (KL.out (World.drew wz)).mono ?_; rintro _ w7 ⟨rfl, hb⟩; have H7 := hid (below_step H0.out H0.out.size hb); clear hb)
          | (go_at_call 17; refine (KM.out w7).mono ?_; rintro _ w8 ⟨rfl, hb⟩; have H8 := hid (below_step H7.out H7.out.size hb); clear hb))
      all_goals
        go_wp2_with fail
        all_goals go_meet
        all_goals exact ⟨by first | rfl | simp, H8.out⟩
    case rest =>
      obtain ⟨rfl, hbz⟩ := hcut
      have HZ := hid hbz
      clear hbz
      by_cases h0 : code = 0
      · have KD : Hid (∀ w', Below wz.heap.size wz w' → Calls Try.prog 11 #[.pointer (some ⟨w1.heap.size, 0, none⟩)] w' fun en w'' => en = .returned (.agg #[.int .i64 re, .int .i64 rw, .int .i64 ru]) ∧ Below w'.heap.size w' w'') := hid fun w' h => by
          have k := claim_any _ _ w' (D6.out.keep h)
          rw [if_pos h0] at k
          exact k
        have HY : Hid (∀ w', Below wz.heap.size wz w' → w'.cell? ⟨w5.heap.size, 0, none⟩ = some (.int .i64 re) ∧ w'.cell? ⟨w5.heap.size, 1, none⟩ = some (.int .i64 rw) ∧ w'.cell? ⟨w5.heap.size, 2, none⟩ = some (.int .i64 ru)) := hid fun w' h => cells_at C6.out h
        subst h0
        go_wp2_with fail
        have H9 := hid HZ.out.drew
        go_region_held3 (fun w' => w'.cell? ⟨w5.heap.size, 0, none⟩ = some (.int .i64 re) ∧ w'.cell? ⟨w5.heap.size, 1, none⟩ = some (.int .i64 rw) ∧ w'.cell? ⟨w5.heap.size, 2, none⟩ = some (.int .i64 ru)) (first | exact HY.out _ H9.out | exact HY.out _ HA.out | go_keep)
          ((go_at_call 11; refine (KD.out (World.drew wc) H9.out).mono ?_; rintro _ wa ⟨rfl, hb⟩; have HA := hid (below_step H9.out H9.out.size hb); clear hb))
        all_goals
          go_wp2_with fail
          all_goals go_returns
          all_goals exact ⟨by first | rfl | simp, below_step g6.out g6.out.size HA.out⟩
      · have KD : Hid (∀ w', Below wz.heap.size wz w' → Calls Try.prog 11 #[.pointer (some ⟨w1.heap.size, 0, none⟩)] w' fun en w'' => en = .returned (.agg #[.int .i64 oe, .int .i64 ow, .int .i64 ou]) ∧ Below w'.heap.size w' w'') := hid fun w' h => by
          have k := claim_any _ _ w' (D6.out.keep h)
          rw [if_neg h0] at k
          exact k
        have HY : Hid (∀ w', Below wz.heap.size wz w' → w'.cell? ⟨w4.heap.size, 0, none⟩ = some (.int .i64 oe) ∧ w'.cell? ⟨w4.heap.size, 1, none⟩ = some (.int .i64 ow) ∧ w'.cell? ⟨w4.heap.size, 2, none⟩ = some (.int .i64 ou)) := hid fun w' h => cells_at A6.out h
        have z : (code != 0) = true := by simpa using h0
        clear h0
        go_wp2_with fail
        have H9 := hid HZ.out.drew
        go_region_held3 (fun w' => w'.cell? ⟨w4.heap.size, 0, none⟩ = some (.int .i64 oe) ∧ w'.cell? ⟨w4.heap.size, 1, none⟩ = some (.int .i64 ow) ∧ w'.cell? ⟨w4.heap.size, 2, none⟩ = some (.int .i64 ou)) (first | exact HY.out _ H9.out | exact HY.out _ HA.out | go_keep)
          ((go_at_call 11; refine (KD.out (World.drew wc) H9.out).mono ?_; rintro _ wa ⟨rfl, hb⟩; have HA := hid (below_step H9.out H9.out.size hb); clear hb))
        all_goals
          go_wp2_with fail
          all_goals go_returns
          all_goals exact ⟨by first | rfl | simp, below_step g6.out g6.out.size HA.out⟩
end Go.Proofs.Ythbbempmppnpkaa
