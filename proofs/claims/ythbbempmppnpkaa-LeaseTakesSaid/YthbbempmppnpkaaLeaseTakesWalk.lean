/- The Go function LeaseTakes, called with any arguments, returns true and leaves all that was there. Condition: none. -/
import Derived.Test.YthbbempmppnpkaaOpen
import Derived.Test.YthbbempmppnpkaaRows
import Derived.Deep.RegionHeld3
namespace Go.Proofs.Ythbbempmppnpkaa
open Go Go.ChangeShapes Go.WideShapes Go.RowKit
open Classical in
theorem take_any (db : Nat) (c : Clm) (who t : Int) (w : World) (hd : DK w db c) (hc : c.ok) :
    Calls Try.prog 12 #[.pointer (some ⟨db, 0, none⟩), .int .i64 who, .int .i64 t] w fun e w' => e = .returned (.tuple #[.agg (takeF c who t).1.cells, .int .i64 (takeF c who t).2]) ∧ DK w' db (if (takeF c who t).2 = 0 then (takeF c who t).1 else c) ∧ w.grownBy w' (some db) := by
  by_cases h1 : who < 0 ∨ tickB t = false
  · rw [takeF_no h1]
    refine (take_no db who t w h1).mono ?_
    rintro e w' ⟨he, hb⟩
    exact ⟨he, hd.keep hb, grown_below hb _⟩
  · have hw : ¬ who < 0 := fun h => h1 (.inl h)
    have ht : tickB t = true := by
      cases h : tickB t
      · exact absurd (.inr h) h1
      · rfl
    by_cases hf : freeB c who t = true
    · by_cases h3 : 1099511627776 ≤ c.e
      · have hh : heldF c who t = 2 := by unfold heldF; rw [if_pos hf, if_pos h3]
        rw [takeF_lim hw ht hf h3]
        refine (take_held db c who t w hd hc hw ht (by rw [hh]; decide)).mono ?_
        rintro e w' ⟨he, hb⟩
        rw [hh] at he
        exact ⟨he, hd.keep hb, grown_below hb _⟩
      · have hh : heldF c who t = 0 := by unfold heldF; rw [if_pos hf, if_neg h3]
        rw [takeF_ok hw ht hf h3]
        exact take_ok db c who t w hd hc hw ht hh h3
    · have hff : freeB c who t = false := by simpa using hf
      have hh : heldF c who t = 170 := by unfold heldF; rw [if_neg hf]
      rw [takeF_held hw ht hff]
      refine (take_held db c who t w hd hc hw ht (by rw [hh]; decide)).mono ?_
      rintro e w' ⟨he, hb⟩
      rw [hh] at he
      exact ⟨he, hd.keep hb, grown_below hb _⟩
theorem takeF_leads (c : Clm) (who t : Int) (he : 0 ≤ c.e) (h0 : (takeF c who t).2 = 0) : leadsB (takeF c who t).1 t = true := by
  unfold takeF at *
  split at h0
  · simp at h0
  · split at h0
    · simp at h0
    · split at h0
      · simp at h0
      · rw [if_neg (by assumption), if_neg (by assumption), if_neg (by assumption)]
        simp [leadsB]
        omega
theorem cells_at {W w : World} {B : Nat} {a0 a1 a2 : Value} {T : TypeId} (h : W.heap[B]? = some (.cells #[a0, a1, a2] T (0, 0))) (hb : Below W.heap.size W w) : w.cell? ⟨B, 0, none⟩ = some a0 ∧ w.cell? ⟨B, 1, none⟩ = some a1 ∧ w.cell? ⟨B, 2, none⟩ = some a2 := three (keep0 hb h)
set_option maxRecDepth 10000 in
set_option maxHeartbeats 2000000 in
theorem leaseTakes_walk {H : Type} {enc : TypeId × Value → H} (W : World) (base : Nat) (args : Array Value) (ds : List (DataW H))
    (hval : ∀ (j : Nat) t v, Try.f3.params[j]? = some t → args[j]? = some v → Value.okWide Try.prog W .any base t v)
    (hA : ∃ p, DataW.TrodAll enc Try.prog W 0 (fun _ => true) true Try.f3.params.toList args.toList ds p) 
    (_ : (DataW.weightsEach Try.prog (Try.f3.params.toList ++ (OpenSpec.ofChange Rows.leaseTakesSpec).bare.plain.varTypes Try.prog) (ds ++ [])).all (· ≤ reachBytes) = true)
    (_ : laidMetH Try.prog Rows.leaseTakesRow.laid W) (_ : W.ShapedOpen Try.prog) :
    Calls Try.prog 3 args W fun e W' => e = .returned (.bool true) ∧ Below W.heap.size W W' := by
  obtain ⟨p, hA⟩ := hA
  rw [Try.params3] at hA hval
  obtain ⟨v0, v1, v2, d0, d1, d2, p0, p1, p2, hargs, rfl, rfl, h0, h1, h2⟩ := trodAll_three hA
  subst hargs
  obtain ⟨c, rfl, hc⟩ := clm_is (hval 0 23 v0 rfl rfl) h0
  obtain ⟨a, rfl, _, _, wa⟩ := open_int Try.underlying3 (hval 1 3 v1 rfl rfl) h1
  obtain ⟨t, rfl, _, _, wt⟩ := open_int Try.underlying3 (hval 2 3 v2 rfl rfl) h2
  clear h0 h1 h2 hval hA wa wt
  by_cases hbad : c.e < 0 ∨ 1099511627776 < c.e
  · obtain ⟨D, hD⟩ : ∃ D : Clm, D = ⟨0, 0, 0⟩ := ⟨_, rfl⟩
    have KN : Hid (∀ w, Calls Try.prog 9 #[.int .i64 9] w fun e w' => e = .returned (.pointer (some ⟨w.heap.size, 0, none⟩)) ∧ DK w' w.heap.size D ∧ Below w.heap.size w w') := hid fun w => by rw [hD]; exact new_any w
    have KS := hid (fun db w => swap_arg db ⟨0, 0, 0⟩ c w hbad)
    have hDo : D.ok := by rw [hD]; simp [Clm.ok]
    have hDe : 0 ≤ D.e := by rw [hD]; decide
    have KC := hid (fun db w h => claim_any db D w h)
    have KT := hid (fun db w h => take_any db D a t w h hDo)
    have KF := hid (fun w => reftake_any D a t w hDo)
    have HL := hid (fun h => takeF_leads D a t hDe h)
    generalize takeF D a t = T at *
    obtain ⟨⟨re, rw, ru⟩, code⟩ := T
    clear hDo hDe
    obtain ⟨de, dw, du⟩ := D
    clear hD
    obtain ⟨e, wh, u⟩ := c
    simp only [Clm.cells] at *
    have hx : e < 0 ∨ (¬ e < 0 ∧ 1099511627776 < e) := by omega
    clear hbad
    rcases hx with hx | ⟨hx, hx2⟩
    · go_enter Try.func3, Try.ntmps3
      go_wp2_with fail
      refine (awake_any _).mono ?_
      rintro _ w1 ⟨rfl, hbb⟩
      have B1 := hid (keep1 hbb)
      have g1 := hid (show Below W.heap.size W w1 from below_step (by go_grown) (by simp) hbb)
      obtain ⟨b0, b1, b2⟩ := three B1.out
      clear hbb
      go_wp2_with fail
      refine (KN.out _).mono ?_
      rintro _ w2 ⟨rfl, hd, hb⟩
      have B2 := hid (keep0 hb B1.out)
      have D2 := hid hd
      have g2 := hid (below_step g1.out g1.out.size hb)
      have hlt2 := lt_of B1.out
      obtain ⟨b3, b4, b5⟩ := three B2.out
      clear hb hd b0 b1 b2
      go_wp2_with fail
      refine (KS.out _ _).mono ?_
      rintro _ w3 ⟨rfl, hb⟩
      have B3 := hid (keep0 hb B2.out)
      have D3 := hid (D2.out.keep hb)
      have g3 := hid (below_step g2.out g2.out.size hb)
      obtain ⟨b0, b1, b2⟩ := three B3.out
      clear hb b3 b4 b5
      go_wp2_with fail
      refine (KC.out _ _ D3.out).mono ?_
      rintro _ w4 ⟨rfl, hb⟩
      have B4 := hid (heapA (o := (.cells #[.int .i64 de, .int .i64 dw, .int .i64 du] 23)) (keep0 hb B3.out))
      have A4 := hid (heap_new w4 (.cells #[.int .i64 de, .int .i64 dw, .int .i64 du] 23))
      have D4 := hid ((D3.out.keep hb).keep (show Below w4.heap.size w4 (w4.alloc (.cells #[.int .i64 de, .int .i64 dw, .int .i64 du] 23)) from by go_grown))
      have g4 := hid ((below_step g3.out g3.out.size hb).alloc (by have := g3.out.size; have := hb.size; omega) (.cells #[.int .i64 de, .int .i64 dw, .int .i64 du] 23))
      have hlt4 : w1.heap.size < w4.heap.size := Nat.lt_of_lt_of_le (lt_of D3.out) hb.size
      obtain ⟨k0, k1, k2⟩ := three B4.out
      clear hb b0 b1 b2
      go_wp2_with fail
      refine (KT.out _ _ D4.out).mono ?_
      rintro _ w5 ⟨rfl, hd, hg⟩
      have A5 := hid (heapA (o := (.cells #[.int .i64 re, .int .i64 rw, .int .i64 ru] 23)) (keepG hg A4.out (by omega)))
      have C5 := hid (heap_new w5 (.cells #[.int .i64 re, .int .i64 rw, .int .i64 ru] 23))
      have D5 := hid (DK.keep hd (show Below w5.heap.size w5 (w5.alloc (.cells #[.int .i64 re, .int .i64 rw, .int .i64 ru] 23)) from by go_grown))
      have g5 := hid ((Below.grown g4.out hg g4.out.size (fun k hk => by cases hk; exact g1.out.size)).alloc (by have := g4.out.size; have := hg.size; omega) (.cells #[.int .i64 re, .int .i64 rw, .int .i64 ru] 23))
      have hlt5 : w4.heap.size < w5.heap.size := by have := hg.size; simp at this; omega
      obtain ⟨a0, a1, a2⟩ := three A5.out
      clear hd hg k0 k1 k2
      go_wp2_with fail
      refine (KF.out _).mono ?_
      rintro _ w6 ⟨rfl, hb⟩
      have A6 := hid (heapA (o := (.cells #[.int .i64 re, .int .i64 rw, .int .i64 ru] 23)) (keep0 hb A5.out))
      have C6 := hid (heapA (o := (.cells #[.int .i64 re, .int .i64 rw, .int .i64 ru] 23)) (keep0 hb C5.out))
      have E6 := hid (heap_new w6 (.cells #[.int .i64 re, .int .i64 rw, .int .i64 ru] 23))
      have D6 := hid ((D5.out.keep hb).keep (show Below w6.heap.size w6 (w6.alloc (.cells #[.int .i64 re, .int .i64 rw, .int .i64 ru] 23)) from by go_grown))
      have g6 := hid ((below_step g5.out g5.out.size hb).alloc (by have := g5.out.size; have := hb.size; omega) (.cells #[.int .i64 re, .int .i64 rw, .int .i64 ru] 23))
      obtain ⟨q0, q1, q2⟩ := three C6.out
      obtain ⟨r0, r1, r2⟩ := three E6.out
      clear hb a0 a1 a2
      have H0 := hid (show Below (w6.alloc (.cells #[.int .i64 re, .int .i64 rw, .int .i64 ru] 23)).heap.size (w6.alloc (.cells #[.int .i64 re, .int .i64 rw, .int .i64 ru] 23)) (World.drew (w6.alloc (.cells #[.int .i64 re, .int .i64 rw, .int .i64 ru] 23))) from (Below.refl _ _).drew)
      have g7 := hid g6.out.drew
      by_cases h0 : code = 0
      · have hcode := hid h0
        have KL := hid (fun w => leads_any ⟨re, rw, ru⟩ t w)
        rw [HL.out h0] at KL
        simp only [Clm.cells] at KL
        have KD : Hid (∀ w', Below (w6.alloc (.cells #[.int .i64 re, .int .i64 rw, .int .i64 ru] 23)).heap.size (w6.alloc (.cells #[.int .i64 re, .int .i64 rw, .int .i64 ru] 23)) w' → Calls Try.prog 11 #[.pointer (some ⟨w1.heap.size, 0, none⟩)] w' fun e w'' => e = .returned (.agg #[.int .i64 re, .int .i64 rw, .int .i64 ru]) ∧ Below w'.heap.size w' w'') := hid fun w' h => by
          have k := claim_any _ _ w' (D6.out.keep h)
          rw [if_pos h0] at k
          exact k
        have HX : Hid (∀ w', Below (w6.alloc (.cells #[.int .i64 re, .int .i64 rw, .int .i64 ru] 23)).heap.size (w6.alloc (.cells #[.int .i64 re, .int .i64 rw, .int .i64 ru] 23)) w' → w'.cell? ⟨w5.heap.size, 0, none⟩ = some (.int .i64 re) ∧ w'.cell? ⟨w5.heap.size, 1, none⟩ = some (.int .i64 rw) ∧ w'.cell? ⟨w5.heap.size, 2, none⟩ = some (.int .i64 ru)) := hid fun w' h => cells_at C6.out h
        subst h0
        go_wp2_with fail
        clear q0 q1 q2 r0 r1 r2
        go_region_held3 (fun w' => w'.cell? ⟨w5.heap.size, 0, none⟩ = some (.int .i64 re) ∧ w'.cell? ⟨w5.heap.size, 1, none⟩ = some (.int .i64 rw) ∧ w'.cell? ⟨w5.heap.size, 2, none⟩ = some (.int .i64 ru)) (first | exact HX.out _ H0.out | exact HX.out _ H7.out | exact HX.out _ H8.out | go_keep)
          (first
            | (go_at_call 11; refine (KD.out (World.drew (w6.alloc (.cells #[.int .i64 re, .int .i64 rw, .int .i64 ru] 23))) H0.out).mono ?_; rintro _ w7 ⟨rfl, hb⟩; have G7 := hid (below_step g7.out g7.out.size hb); have H7 := hid (below_step H0.out H0.out.size hb); clear hb)
            | (go_at_call 14; refine (KL.out w7).mono ?_; rintro _ w8 ⟨rfl, hb⟩; have G8 := hid (below_step G7.out G7.out.size hb); have H8 := hid (below_step H7.out H7.out.size hb); clear hb))
        all_goals
          go_wp2_with fail
          all_goals go_returns
          all_goals exact ⟨by first | rfl | simp, G8.out⟩
      · have KD : Hid (∀ w', Below (w6.alloc (.cells #[.int .i64 re, .int .i64 rw, .int .i64 ru] 23)).heap.size (w6.alloc (.cells #[.int .i64 re, .int .i64 rw, .int .i64 ru] 23)) w' → Calls Try.prog 11 #[.pointer (some ⟨w1.heap.size, 0, none⟩)] w' fun en w'' => en = .returned (.agg #[.int .i64 de, .int .i64 dw, .int .i64 du]) ∧ Below w'.heap.size w' w'') := hid fun w' h => by
          have k := claim_any _ _ w' (D6.out.keep h)
          rw [if_neg h0] at k
          exact k
        have HX : Hid (∀ w', Below (w6.alloc (.cells #[.int .i64 re, .int .i64 rw, .int .i64 ru] 23)).heap.size (w6.alloc (.cells #[.int .i64 re, .int .i64 rw, .int .i64 ru] 23)) w' → w'.cell? ⟨w4.heap.size, 0, none⟩ = some (.int .i64 de) ∧ w'.cell? ⟨w4.heap.size, 1, none⟩ = some (.int .i64 dw) ∧ w'.cell? ⟨w4.heap.size, 2, none⟩ = some (.int .i64 du)) := hid fun w' h => cells_at A6.out h
        have z : (code != 0) = true := by simpa using h0
        clear h0
        go_wp2_with fail
        clear q0 q1 q2 r0 r1 r2
        go_region_held3 (fun w' => w'.cell? ⟨w4.heap.size, 0, none⟩ = some (.int .i64 de) ∧ w'.cell? ⟨w4.heap.size, 1, none⟩ = some (.int .i64 dw) ∧ w'.cell? ⟨w4.heap.size, 2, none⟩ = some (.int .i64 du)) (first | exact HX.out _ H0.out | exact HX.out _ H7.out | go_keep)
          ((go_at_call 11; refine (KD.out (World.drew (w6.alloc (.cells #[.int .i64 re, .int .i64 rw, .int .i64 ru] 23))) H0.out).mono ?_; rintro _ w7 ⟨rfl, hb⟩; have G7 := hid (below_step g7.out g7.out.size hb); have H7 := hid (below_step H0.out H0.out.size hb); clear hb))
        all_goals
          go_wp2_with fail
          all_goals go_returns
          all_goals exact ⟨by first | rfl | simp, G7.out⟩
    · go_enter Try.func3, Try.ntmps3
      go_wp2_with fail
      refine (awake_any _).mono ?_
      rintro _ w1 ⟨rfl, hbb⟩
      have B1 := hid (keep1 hbb)
      have g1 := hid (show Below W.heap.size W w1 from below_step (by go_grown) (by simp) hbb)
      obtain ⟨b0, b1, b2⟩ := three B1.out
      clear hbb
      go_wp2_with fail
      refine (KN.out _).mono ?_
      rintro _ w2 ⟨rfl, hd, hb⟩
      have B2 := hid (keep0 hb B1.out)
      have D2 := hid hd
      have g2 := hid (below_step g1.out g1.out.size hb)
      have hlt2 := lt_of B1.out
      obtain ⟨b3, b4, b5⟩ := three B2.out
      clear hb hd b0 b1 b2
      go_wp2_with fail
      refine (KS.out _ _).mono ?_
      rintro _ w3 ⟨rfl, hb⟩
      have B3 := hid (keep0 hb B2.out)
      have D3 := hid (D2.out.keep hb)
      have g3 := hid (below_step g2.out g2.out.size hb)
      obtain ⟨b0, b1, b2⟩ := three B3.out
      clear hb b3 b4 b5
      go_wp2_with fail
      refine (KC.out _ _ D3.out).mono ?_
      rintro _ w4 ⟨rfl, hb⟩
      have B4 := hid (heapA (o := (.cells #[.int .i64 de, .int .i64 dw, .int .i64 du] 23)) (keep0 hb B3.out))
      have A4 := hid (heap_new w4 (.cells #[.int .i64 de, .int .i64 dw, .int .i64 du] 23))
      have D4 := hid ((D3.out.keep hb).keep (show Below w4.heap.size w4 (w4.alloc (.cells #[.int .i64 de, .int .i64 dw, .int .i64 du] 23)) from by go_grown))
      have g4 := hid ((below_step g3.out g3.out.size hb).alloc (by have := g3.out.size; have := hb.size; omega) (.cells #[.int .i64 de, .int .i64 dw, .int .i64 du] 23))
      have hlt4 : w1.heap.size < w4.heap.size := Nat.lt_of_lt_of_le (lt_of D3.out) hb.size
      obtain ⟨k0, k1, k2⟩ := three B4.out
      clear hb b0 b1 b2
      go_wp2_with fail
      refine (KT.out _ _ D4.out).mono ?_
      rintro _ w5 ⟨rfl, hd, hg⟩
      have A5 := hid (heapA (o := (.cells #[.int .i64 re, .int .i64 rw, .int .i64 ru] 23)) (keepG hg A4.out (by omega)))
      have C5 := hid (heap_new w5 (.cells #[.int .i64 re, .int .i64 rw, .int .i64 ru] 23))
      have D5 := hid (DK.keep hd (show Below w5.heap.size w5 (w5.alloc (.cells #[.int .i64 re, .int .i64 rw, .int .i64 ru] 23)) from by go_grown))
      have g5 := hid ((Below.grown g4.out hg g4.out.size (fun k hk => by cases hk; exact g1.out.size)).alloc (by have := g4.out.size; have := hg.size; omega) (.cells #[.int .i64 re, .int .i64 rw, .int .i64 ru] 23))
      have hlt5 : w4.heap.size < w5.heap.size := by have := hg.size; simp at this; omega
      obtain ⟨a0, a1, a2⟩ := three A5.out
      clear hd hg k0 k1 k2
      go_wp2_with fail
      refine (KF.out _).mono ?_
      rintro _ w6 ⟨rfl, hb⟩
      have A6 := hid (heapA (o := (.cells #[.int .i64 re, .int .i64 rw, .int .i64 ru] 23)) (keep0 hb A5.out))
      have C6 := hid (heapA (o := (.cells #[.int .i64 re, .int .i64 rw, .int .i64 ru] 23)) (keep0 hb C5.out))
      have E6 := hid (heap_new w6 (.cells #[.int .i64 re, .int .i64 rw, .int .i64 ru] 23))
      have D6 := hid ((D5.out.keep hb).keep (show Below w6.heap.size w6 (w6.alloc (.cells #[.int .i64 re, .int .i64 rw, .int .i64 ru] 23)) from by go_grown))
      have g6 := hid ((below_step g5.out g5.out.size hb).alloc (by have := g5.out.size; have := hb.size; omega) (.cells #[.int .i64 re, .int .i64 rw, .int .i64 ru] 23))
      obtain ⟨q0, q1, q2⟩ := three C6.out
      obtain ⟨r0, r1, r2⟩ := three E6.out
      clear hb a0 a1 a2
      have H0 := hid (show Below (w6.alloc (.cells #[.int .i64 re, .int .i64 rw, .int .i64 ru] 23)).heap.size (w6.alloc (.cells #[.int .i64 re, .int .i64 rw, .int .i64 ru] 23)) (World.drew (w6.alloc (.cells #[.int .i64 re, .int .i64 rw, .int .i64 ru] 23))) from (Below.refl _ _).drew)
      have g7 := hid g6.out.drew
      by_cases h0 : code = 0
      · have hcode := hid h0
        have KL := hid (fun w => leads_any ⟨re, rw, ru⟩ t w)
        rw [HL.out h0] at KL
        simp only [Clm.cells] at KL
        have KD : Hid (∀ w', Below (w6.alloc (.cells #[.int .i64 re, .int .i64 rw, .int .i64 ru] 23)).heap.size (w6.alloc (.cells #[.int .i64 re, .int .i64 rw, .int .i64 ru] 23)) w' → Calls Try.prog 11 #[.pointer (some ⟨w1.heap.size, 0, none⟩)] w' fun e w'' => e = .returned (.agg #[.int .i64 re, .int .i64 rw, .int .i64 ru]) ∧ Below w'.heap.size w' w'') := hid fun w' h => by
          have k := claim_any _ _ w' (D6.out.keep h)
          rw [if_pos h0] at k
          exact k
        have HX : Hid (∀ w', Below (w6.alloc (.cells #[.int .i64 re, .int .i64 rw, .int .i64 ru] 23)).heap.size (w6.alloc (.cells #[.int .i64 re, .int .i64 rw, .int .i64 ru] 23)) w' → w'.cell? ⟨w5.heap.size, 0, none⟩ = some (.int .i64 re) ∧ w'.cell? ⟨w5.heap.size, 1, none⟩ = some (.int .i64 rw) ∧ w'.cell? ⟨w5.heap.size, 2, none⟩ = some (.int .i64 ru)) := hid fun w' h => cells_at C6.out h
        subst h0
        go_wp2_with fail
        clear q0 q1 q2 r0 r1 r2
        go_region_held3 (fun w' => w'.cell? ⟨w5.heap.size, 0, none⟩ = some (.int .i64 re) ∧ w'.cell? ⟨w5.heap.size, 1, none⟩ = some (.int .i64 rw) ∧ w'.cell? ⟨w5.heap.size, 2, none⟩ = some (.int .i64 ru)) (first | exact HX.out _ H0.out | exact HX.out _ H7.out | exact HX.out _ H8.out | go_keep)
          (first
            | (go_at_call 11; refine (KD.out (World.drew (w6.alloc (.cells #[.int .i64 re, .int .i64 rw, .int .i64 ru] 23))) H0.out).mono ?_; rintro _ w7 ⟨rfl, hb⟩; have G7 := hid (below_step g7.out g7.out.size hb); have H7 := hid (below_step H0.out H0.out.size hb); clear hb)
            | (go_at_call 14; refine (KL.out w7).mono ?_; rintro _ w8 ⟨rfl, hb⟩; have G8 := hid (below_step G7.out G7.out.size hb); have H8 := hid (below_step H7.out H7.out.size hb); clear hb))
        all_goals
          go_wp2_with fail
          all_goals go_returns
          all_goals exact ⟨by first | rfl | simp, G8.out⟩
      · have KD : Hid (∀ w', Below (w6.alloc (.cells #[.int .i64 re, .int .i64 rw, .int .i64 ru] 23)).heap.size (w6.alloc (.cells #[.int .i64 re, .int .i64 rw, .int .i64 ru] 23)) w' → Calls Try.prog 11 #[.pointer (some ⟨w1.heap.size, 0, none⟩)] w' fun en w'' => en = .returned (.agg #[.int .i64 de, .int .i64 dw, .int .i64 du]) ∧ Below w'.heap.size w' w'') := hid fun w' h => by
          have k := claim_any _ _ w' (D6.out.keep h)
          rw [if_neg h0] at k
          exact k
        have HX : Hid (∀ w', Below (w6.alloc (.cells #[.int .i64 re, .int .i64 rw, .int .i64 ru] 23)).heap.size (w6.alloc (.cells #[.int .i64 re, .int .i64 rw, .int .i64 ru] 23)) w' → w'.cell? ⟨w4.heap.size, 0, none⟩ = some (.int .i64 de) ∧ w'.cell? ⟨w4.heap.size, 1, none⟩ = some (.int .i64 dw) ∧ w'.cell? ⟨w4.heap.size, 2, none⟩ = some (.int .i64 du)) := hid fun w' h => cells_at A6.out h
        have z : (code != 0) = true := by simpa using h0
        clear h0
        go_wp2_with fail
        clear q0 q1 q2 r0 r1 r2
        go_region_held3 (fun w' => w'.cell? ⟨w4.heap.size, 0, none⟩ = some (.int .i64 de) ∧ w'.cell? ⟨w4.heap.size, 1, none⟩ = some (.int .i64 dw) ∧ w'.cell? ⟨w4.heap.size, 2, none⟩ = some (.int .i64 du)) (first | exact HX.out _ H0.out | exact HX.out _ H7.out | go_keep)
          ((go_at_call 11; refine (KD.out (World.drew (w6.alloc (.cells #[.int .i64 re, .int .i64 rw, .int .i64 ru] 23))) H0.out).mono ?_; rintro _ w7 ⟨rfl, hb⟩; have G7 := hid (below_step g7.out g7.out.size hb); have H7 := hid (below_step H0.out H0.out.size hb); clear hb))
        all_goals
          go_wp2_with fail
          all_goals go_returns
          all_goals exact ⟨by first | rfl | simp, G7.out⟩
  · obtain ⟨D, hD⟩ : ∃ D : Clm, D = c := ⟨_, rfl⟩
    have KN := hid (fun w => new_any w)
    have KS := hid (fun db w h => swap_ok db ⟨0, 0, 0⟩ c w h (fun h => hbad (.inl h)) (fun h => hbad (.inr h)))
    have hDo : D.ok := by rw [hD]; exact hc
    have hDe : 0 ≤ D.e := by rw [hD]; omega
    have KC := hid (fun db w h => claim_any db D w h)
    have KT := hid (fun db w h => take_any db D a t w h hDo)
    have KF := hid (fun w => reftake_any D a t w hDo)
    have HL := hid (fun h => takeF_leads D a t hDe h)
    generalize takeF D a t = T at *
    obtain ⟨⟨re, rw, ru⟩, code⟩ := T
    clear hDo hDe
    subst hD
    clear hbad
    obtain ⟨e, wh, u⟩ := D
    simp only [Clm.cells] at *
    go_enter Try.func3, Try.ntmps3
    go_wp2_with fail
    refine (awake_any _).mono ?_
    rintro _ w1 ⟨rfl, hbb⟩
    have B1 := hid (keep1 hbb)
    have g1 := hid (show Below W.heap.size W w1 from below_step (by go_grown) (by simp) hbb)
    obtain ⟨b0, b1, b2⟩ := three B1.out
    clear hbb
    go_wp2_with fail
    refine (KN.out _).mono ?_
    rintro _ w2 ⟨rfl, hd, hb⟩
    have B2 := hid (keep0 hb B1.out)
    have D2 := hid hd
    have g2 := hid (below_step g1.out g1.out.size hb)
    have hlt2 := lt_of B1.out
    obtain ⟨b3, b4, b5⟩ := three B2.out
    clear hb hd b0 b1 b2
    go_wp2_with fail
    refine (KS.out _ _ D2.out).mono ?_
    rintro _ w3 ⟨rfl, hd, hg⟩
    have B3 := hid (keepG hg B2.out (by omega))
    have D3 := hid hd
    have g3 := hid (Below.grown g2.out hg g2.out.size (fun k hk => by cases hk; exact g1.out.size))
    obtain ⟨b0, b1, b2⟩ := three B3.out
    clear hg hd b3 b4 b5
    go_wp2_with fail
    refine (KC.out _ _ D3.out).mono ?_
    rintro _ w4 ⟨rfl, hb⟩
    have B4 := hid (heapA (o := (.cells #[.int .i64 e, .int .i64 wh, .int .i64 u] 23)) (keep0 hb B3.out))
    have A4 := hid (heap_new w4 (.cells #[.int .i64 e, .int .i64 wh, .int .i64 u] 23))
    have D4 := hid ((D3.out.keep hb).keep (show Below w4.heap.size w4 (w4.alloc (.cells #[.int .i64 e, .int .i64 wh, .int .i64 u] 23)) from by go_grown))
    have g4 := hid ((below_step g3.out g3.out.size hb).alloc (by have := g3.out.size; have := hb.size; omega) (.cells #[.int .i64 e, .int .i64 wh, .int .i64 u] 23))
    have hlt4 : w1.heap.size < w4.heap.size := Nat.lt_of_lt_of_le (lt_of D3.out) hb.size
    obtain ⟨k0, k1, k2⟩ := three B4.out
    clear hb b0 b1 b2
    go_wp2_with fail
    refine (KT.out _ _ D4.out).mono ?_
    rintro _ w5 ⟨rfl, hd, hg⟩
    have A5 := hid (heapA (o := (.cells #[.int .i64 re, .int .i64 rw, .int .i64 ru] 23)) (keepG hg A4.out (by omega)))
    have C5 := hid (heap_new w5 (.cells #[.int .i64 re, .int .i64 rw, .int .i64 ru] 23))
    have D5 := hid (DK.keep hd (show Below w5.heap.size w5 (w5.alloc (.cells #[.int .i64 re, .int .i64 rw, .int .i64 ru] 23)) from by go_grown))
    have g5 := hid ((Below.grown g4.out hg g4.out.size (fun k hk => by cases hk; exact g1.out.size)).alloc (by have := g4.out.size; have := hg.size; omega) (.cells #[.int .i64 re, .int .i64 rw, .int .i64 ru] 23))
    have hlt5 : w4.heap.size < w5.heap.size := by have := hg.size; simp at this; omega
    obtain ⟨a0, a1, a2⟩ := three A5.out
    clear hd hg k0 k1 k2
    go_wp2_with fail
    refine (KF.out _).mono ?_
    rintro _ w6 ⟨rfl, hb⟩
    have A6 := hid (heapA (o := (.cells #[.int .i64 re, .int .i64 rw, .int .i64 ru] 23)) (keep0 hb A5.out))
    have C6 := hid (heapA (o := (.cells #[.int .i64 re, .int .i64 rw, .int .i64 ru] 23)) (keep0 hb C5.out))
    have E6 := hid (heap_new w6 (.cells #[.int .i64 re, .int .i64 rw, .int .i64 ru] 23))
    have D6 := hid ((D5.out.keep hb).keep (show Below w6.heap.size w6 (w6.alloc (.cells #[.int .i64 re, .int .i64 rw, .int .i64 ru] 23)) from by go_grown))
    have g6 := hid ((below_step g5.out g5.out.size hb).alloc (by have := g5.out.size; have := hb.size; omega) (.cells #[.int .i64 re, .int .i64 rw, .int .i64 ru] 23))
    obtain ⟨q0, q1, q2⟩ := three C6.out
    obtain ⟨r0, r1, r2⟩ := three E6.out
    clear hb a0 a1 a2
    have H0 := hid (show Below (w6.alloc (.cells #[.int .i64 re, .int .i64 rw, .int .i64 ru] 23)).heap.size (w6.alloc (.cells #[.int .i64 re, .int .i64 rw, .int .i64 ru] 23)) (World.drew (w6.alloc (.cells #[.int .i64 re, .int .i64 rw, .int .i64 ru] 23))) from (Below.refl _ _).drew)
    have g7 := hid g6.out.drew
    by_cases h0 : code = 0
    · have hcode := hid h0
      have KL := hid (fun w => leads_any ⟨re, rw, ru⟩ t w)
      rw [HL.out h0] at KL
      simp only [Clm.cells] at KL
      have KD : Hid (∀ w', Below (w6.alloc (.cells #[.int .i64 re, .int .i64 rw, .int .i64 ru] 23)).heap.size (w6.alloc (.cells #[.int .i64 re, .int .i64 rw, .int .i64 ru] 23)) w' → Calls Try.prog 11 #[.pointer (some ⟨w1.heap.size, 0, none⟩)] w' fun e w'' => e = .returned (.agg #[.int .i64 re, .int .i64 rw, .int .i64 ru]) ∧ Below w'.heap.size w' w'') := hid fun w' h => by
        have k := claim_any _ _ w' (D6.out.keep h)
        rw [if_pos h0] at k
        exact k
      have HX : Hid (∀ w', Below (w6.alloc (.cells #[.int .i64 re, .int .i64 rw, .int .i64 ru] 23)).heap.size (w6.alloc (.cells #[.int .i64 re, .int .i64 rw, .int .i64 ru] 23)) w' → w'.cell? ⟨w5.heap.size, 0, none⟩ = some (.int .i64 re) ∧ w'.cell? ⟨w5.heap.size, 1, none⟩ = some (.int .i64 rw) ∧ w'.cell? ⟨w5.heap.size, 2, none⟩ = some (.int .i64 ru)) := hid fun w' h => cells_at C6.out h
      subst h0
      go_wp2_with fail
      clear q0 q1 q2 r0 r1 r2
      go_region_held3 (fun w' => w'.cell? ⟨w5.heap.size, 0, none⟩ = some (.int .i64 re) ∧ w'.cell? ⟨w5.heap.size, 1, none⟩ = some (.int .i64 rw) ∧ w'.cell? ⟨w5.heap.size, 2, none⟩ = some (.int .i64 ru)) (first | exact HX.out _ H0.out | exact HX.out _ H7.out | exact HX.out _ H8.out | go_keep)
        (first
          | (go_at_call 11; refine (KD.out (World.drew (w6.alloc (.cells #[.int .i64 re, .int .i64 rw, .int .i64 ru] 23))) H0.out).mono ?_; rintro _ w7 ⟨rfl, hb⟩; have G7 := hid (below_step g7.out g7.out.size hb); have H7 := hid (below_step H0.out H0.out.size hb); clear hb)
          | (go_at_call 14; refine (KL.out w7).mono ?_; rintro _ w8 ⟨rfl, hb⟩; have G8 := hid (below_step G7.out G7.out.size hb); have H8 := hid (below_step H7.out H7.out.size hb); clear hb))
      all_goals
        go_wp2_with fail
        all_goals go_returns
        all_goals exact ⟨by first | rfl | simp, G8.out⟩
    · have KD : Hid (∀ w', Below (w6.alloc (.cells #[.int .i64 re, .int .i64 rw, .int .i64 ru] 23)).heap.size (w6.alloc (.cells #[.int .i64 re, .int .i64 rw, .int .i64 ru] 23)) w' → Calls Try.prog 11 #[.pointer (some ⟨w1.heap.size, 0, none⟩)] w' fun en w'' => en = .returned (.agg #[.int .i64 e, .int .i64 wh, .int .i64 u]) ∧ Below w'.heap.size w' w'') := hid fun w' h => by
        have k := claim_any _ _ w' (D6.out.keep h)
        rw [if_neg h0] at k
        exact k
      have HX : Hid (∀ w', Below (w6.alloc (.cells #[.int .i64 re, .int .i64 rw, .int .i64 ru] 23)).heap.size (w6.alloc (.cells #[.int .i64 re, .int .i64 rw, .int .i64 ru] 23)) w' → w'.cell? ⟨w4.heap.size, 0, none⟩ = some (.int .i64 e) ∧ w'.cell? ⟨w4.heap.size, 1, none⟩ = some (.int .i64 wh) ∧ w'.cell? ⟨w4.heap.size, 2, none⟩ = some (.int .i64 u)) := hid fun w' h => cells_at A6.out h
      have z : (code != 0) = true := by simpa using h0
      clear h0
      go_wp2_with fail
      clear q0 q1 q2 r0 r1 r2
      go_region_held3 (fun w' => w'.cell? ⟨w4.heap.size, 0, none⟩ = some (.int .i64 e) ∧ w'.cell? ⟨w4.heap.size, 1, none⟩ = some (.int .i64 wh) ∧ w'.cell? ⟨w4.heap.size, 2, none⟩ = some (.int .i64 u)) (first | exact HX.out _ H0.out | exact HX.out _ H7.out | go_keep)
        ((go_at_call 11; refine (KD.out (World.drew (w6.alloc (.cells #[.int .i64 re, .int .i64 rw, .int .i64 ru] 23))) H0.out).mono ?_; rintro _ w7 ⟨rfl, hb⟩; have G7 := hid (below_step g7.out g7.out.size hb); have H7 := hid (below_step H0.out H0.out.size hb); clear hb))
      all_goals
        go_wp2_with fail
        all_goals go_returns
        all_goals exact ⟨by first | rfl | simp, G7.out⟩
end Go.Proofs.Ythbbempmppnpkaa
