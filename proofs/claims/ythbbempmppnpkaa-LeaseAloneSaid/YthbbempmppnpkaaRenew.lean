/- lease.Renew at any disk and claim. Condition: the disk stands in memory. -/
import Derived.Test.YthbbempmppnpkaaTakeD
namespace Go.Proofs.Ythbbempmppnpkaa
open Go Go.RowKit
def nextU (u t : Int) : Int := if u < t + 40 then t + 40 else u
theorem renew_no (db : Nat) (c : Clm) (t : Int) (w : World) (h : tickB t = false) :
    Calls Try.prog 15 #[.pointer (some ⟨db, 0, none⟩), .agg c.cells, .int .i64 t] w fun e w' => e = .returned (.tuple #[.agg (⟨0, 0, 0⟩ : Clm).cells, .int .i64 1]) ∧ Below w.heap.size w w' := by
  have KT := hid (fun w => istick_any t w)
  rw [h] at KT
  rw [nilC]
  obtain ⟨e, wh, u⟩ := c
  simp only [Clm.cells] at *
  clear h
  go_enter Try.func15, Try.ntmps15
  go_wp2_with (go_at_call 24; refine (KT.out _).mono ?_; rintro _ w1 ⟨rfl, rfl⟩)
  all_goals go_returns
  all_goals exact ⟨rfl, by go_grown⟩
set_option maxHeartbeats 1000000 in
theorem renew_lapse (db : Nat) (c : Clm) (t : Int) (w : World) (h : tickB t = true) (hl : leadsB c t = false) :
    Calls Try.prog 15 #[.pointer (some ⟨db, 0, none⟩), .agg c.cells, .int .i64 t] w fun e w' => e = .returned (.tuple #[.agg (⟨0, 0, 0⟩ : Clm).cells, .int .i64 171]) ∧ Below w.heap.size w w' := by
  have KT := hid (fun w => istick_any t w)
  have KL := hid (fun w => leads_any c t w)
  rw [h] at KT
  rw [hl] at KL
  rw [nilC]
  obtain ⟨e, wh, u⟩ := c
  simp only [Clm.cells] at *
  clear h hl
  go_enter Try.func15, Try.ntmps15
  go_wp2_with (go_at_call 24; refine (KT.out _).mono ?_; rintro _ w1 ⟨rfl, rfl⟩)
  refine (KL.out _).mono ?_
  rintro _ w2 ⟨rfl, hb⟩
  have g := hid (show Below w.heap.size w w2 from below_step (by go_grown) (by simp; omega) hb)
  obtain ⟨b1, b2⟩ := two_of hb
  obtain ⟨d0, d1, d2⟩ := three b2
  obtain ⟨f0, f1, f2⟩ := threeF b2
  have R := hid b2
  clear hb b1 b2
  go_wp2_with fail
  all_goals exact bodyPost_ret (v := .tuple #[.agg #[.int .i64 0, .int .i64 0, .int .i64 0], .int .i64 171]) (results_row_tmp Try.results15 _ _ (w.heap.size + 1) 23 _ (0, 0) _ _ rfl rfl (three_set _ _ _ R.out) Try.underlying23 rfl (by kernel_rfl)) rfl ⟨rfl, three_below _ _ _ g.out (by omega)⟩
set_option maxHeartbeats 1000000 in
theorem renew_ref (db : Nat) (c : Clm) (t E : Int) (w : World) (h : tickB t = true) (hl : leadsB c t = true) (h0 : E ≠ 0)
    (K : ∀ w' : World, Below w.heap.size w w' → Calls Try.prog 10 #[.pointer (some ⟨db, 0, none⟩), .agg c.cells, .agg (⟨c.e, c.w, nextU c.u t⟩ : Clm).cells] w' fun e w'' => e = .returned (.int .i64 E) ∧ Below w'.heap.size w' w'') :
    Calls Try.prog 15 #[.pointer (some ⟨db, 0, none⟩), .agg c.cells, .int .i64 t] w fun e w' => e = .returned (.tuple #[.agg (⟨0, 0, 0⟩ : Clm).cells, .int .i64 E]) ∧ Below w.heap.size w w' := by
  have KT := hid (fun w => istick_any t w)
  have KL := hid (fun w => leads_any c t w)
  have ht : 0 ≤ t ∧ t < 1099511627776 := by simpa [tickB] using h
  obtain ⟨ht1, ht2⟩ := ht
  rw [h] at KT
  rw [hl] at KL
  have KP := hid (fun w4 (hb : Below w.heap.size w w4) => put_no db c ⟨c.e, c.w, nextU c.u t⟩ E w4 h0 (fun w' h => K w' (below_step hb hb.size h)))
  rw [nilC]
  obtain ⟨e, wh, u⟩ := c
  simp only [Clm.cells] at *
  clear h hl h0 K
  have hnx : nextU u t = if u < t + 40 then t + 40 else u := rfl
  have HN := hid hnx
  generalize nextU u t = nu at *
  clear hnx
  go_enter Try.func15, Try.ntmps15
  go_wp2_with (go_at_call 24; refine (KT.out _).mono ?_; rintro _ w1 ⟨rfl, rfl⟩)
  refine (KL.out _).mono ?_
  rintro _ w2 ⟨rfl, hb⟩
  have g := hid (show Below w.heap.size w w2 from below_step (by go_grown) (by simp; omega) hb)
  obtain ⟨b1, b2⟩ := two_of hb
  obtain ⟨c0, c1, c2⟩ := three b1
  have B2 := hid b2
  have lz := g.out.size
  have hz := lt_of b2
  have hz0 := lt_of b1
  have b3 := heapA (o := .cells #[.int .i64 e, .int .i64 wh, .int .i64 u] 23) b1
  obtain ⟨a0, a1, a2⟩ := three b3
  clear hb b1 b2 b3
  by_cases hu : u < t + 40
  · have hn' := HN.out
    rw [if_pos hu] at hn'
    subst hn'
    go_wp2_with fail
    refine (KP.out _ (g.out.alloc g.out.size _)).mono ?_
    rintro _ w3 ⟨rfl, hb⟩
    have g3 := hid (show Below w.heap.size w w3 from below_step (g.out.alloc g.out.size _) (by simp; omega) hb)
    have b2 := keep0 hb (heapA B2.out)
    obtain ⟨d0, d1, d2⟩ := three b2
    obtain ⟨f0, f1, f2⟩ := threeF b2
    have R := hid b2
    clear hb b2 a0 a1 a2
    go_wp2_with fail
    all_goals exact bodyPost_ret (v := .tuple #[.agg #[.int .i64 0, .int .i64 0, .int .i64 0], .int .i64 E]) (results_row_tmp Try.results15 _ _ (w.heap.size + 1) 23 _ (0, 0) _ _ rfl rfl (three_set _ _ _ R.out) Try.underlying23 rfl (by kernel_rfl)) rfl ⟨rfl, three_below _ _ _ g3.out (by omega)⟩
  · have hn' := HN.out
    rw [if_neg hu] at hn'
    subst hn'
    go_wp2_with fail
    refine (KP.out _ (g.out.alloc g.out.size _)).mono ?_
    rintro _ w3 ⟨rfl, hb⟩
    have g3 := hid (show Below w.heap.size w w3 from below_step (g.out.alloc g.out.size _) (by simp; omega) hb)
    have b2 := keep0 hb (heapA B2.out)
    obtain ⟨d0, d1, d2⟩ := three b2
    obtain ⟨f0, f1, f2⟩ := threeF b2
    have R := hid b2
    clear hb b2 a0 a1 a2
    go_wp2_with fail
    all_goals exact bodyPost_ret (v := .tuple #[.agg #[.int .i64 0, .int .i64 0, .int .i64 0], .int .i64 E]) (results_row_tmp Try.results15 _ _ (w.heap.size + 1) 23 _ (0, 0) _ _ rfl rfl (three_set _ _ _ R.out) Try.underlying23 rfl (by kernel_rfl)) rfl ⟨rfl, three_below _ _ _ g3.out (by omega)⟩
set_option maxHeartbeats 1000000 in
theorem renew_ok (db : Nat) (c : Clm) (t : Int) (w : World) (h : tickB t = true) (hl : leadsB c t = true) (hd : DK w db c) (h2 : ¬ 1099511627776 < c.e) :
    Calls Try.prog 15 #[.pointer (some ⟨db, 0, none⟩), .agg c.cells, .int .i64 t] w fun e w' => e = .returned (.tuple #[.agg (⟨c.e, c.w, nextU c.u t⟩ : Clm).cells, .int .i64 0]) ∧ DK w' db ⟨c.e, c.w, nextU c.u t⟩ ∧ w.grownBy w' (some db) := by
  have hlt := lt_of hd
  have KT := hid (fun w => istick_any t w)
  have KL := hid (fun w => leads_any c t w)
  have ht : 0 ≤ t ∧ t < 1099511627776 := by simpa [tickB] using h
  obtain ⟨ht1, ht2⟩ := ht
  rw [h] at KT
  rw [hl] at KL
  have KP := hid (fun w4 (hb : Below w.heap.size w w4) => put_yes db c ⟨c.e, c.w, nextU c.u t⟩ w4 (hd.keep hb) (by simp only; omega) (by simp only; omega))
  obtain ⟨e, wh, u⟩ := c
  simp only [Clm.cells] at *
  clear h hl hd h2
  have hnx : nextU u t = if u < t + 40 then t + 40 else u := rfl
  have HN := hid hnx
  generalize nextU u t = nu at *
  clear hnx
  go_enter Try.func15, Try.ntmps15
  go_wp2_with (go_at_call 24; refine (KT.out _).mono ?_; rintro _ w1 ⟨rfl, rfl⟩)
  refine (KL.out _).mono ?_
  rintro _ w2 ⟨rfl, hb⟩
  have g := hid (show Below w.heap.size w w2 from below_step (by go_grown) (by simp; omega) hb)
  obtain ⟨b1, b2⟩ := two_of hb
  obtain ⟨c0, c1, c2⟩ := three b1
  have B2 := hid b2
  have lz := g.out.size
  have hz := lt_of b2
  have hz0 := lt_of b1
  have b3 := heapA (o := .cells #[.int .i64 e, .int .i64 wh, .int .i64 u] 23) b1
  obtain ⟨a0, a1, a2⟩ := three b3
  clear hb b1 b2 b3
  by_cases hu : u < t + 40
  · have hn' := HN.out
    rw [if_pos hu] at hn'
    subst hn'
    go_wp2_with fail
    refine (KP.out _ (g.out.alloc g.out.size _)).mono ?_
    rintro _ w3 ⟨rfl, hd3, hg3⟩
    have HD3 := hid hd3
    have G3 := hid (grown_trans (grown_below (g.out.alloc g.out.size _) (some db)) hg3)
    have b2 : w3.heap[w.heap.size + 1]? = some (.cells #[.int .i64 0, .int .i64 0, .int .i64 0] 23) := by rw [hg3.block _ (lt_of (heapA B2.out)) (fun e => by cases e; omega), heapA B2.out]
    obtain ⟨d0, d1, d2⟩ := three b2
    obtain ⟨f0, f1, f2⟩ := threeF b2
    have R := hid b2
    clear hd3 hg3 b2 a0 a1 a2
    go_wp2_with fail
    all_goals exact bodyPost_ret (v := .tuple #[.agg #[.int .i64 e, .int .i64 wh, .int .i64 (t + 40)], .int .i64 0]) (results_row_tmp Try.results15 _ _ (w.heap.size + 1) 23 _ (0, 0) _ _ rfl rfl (three_set _ _ _ R.out) Try.underlying23 rfl (by kernel_rfl)) rfl ⟨rfl, dk3 _ _ _ HD3.out (by omega), grown3 _ _ _ G3.out (by omega)⟩
  · have hn' := HN.out
    rw [if_neg hu] at hn'
    subst hn'
    go_wp2_with fail
    refine (KP.out _ (g.out.alloc g.out.size _)).mono ?_
    rintro _ w3 ⟨rfl, hd3, hg3⟩
    have HD3 := hid hd3
    have G3 := hid (grown_trans (grown_below (g.out.alloc g.out.size _) (some db)) hg3)
    have b2 : w3.heap[w.heap.size + 1]? = some (.cells #[.int .i64 0, .int .i64 0, .int .i64 0] 23) := by rw [hg3.block _ (lt_of (heapA B2.out)) (fun e => by cases e; omega), heapA B2.out]
    obtain ⟨d0, d1, d2⟩ := three b2
    obtain ⟨f0, f1, f2⟩ := threeF b2
    have R := hid b2
    clear hd3 hg3 b2 a0 a1 a2
    go_wp2_with fail
    all_goals exact bodyPost_ret (v := .tuple #[.agg #[.int .i64 e, .int .i64 wh, .int .i64 (nu)], .int .i64 0]) (results_row_tmp Try.results15 _ _ (w.heap.size + 1) 23 _ (0, 0) _ _ rfl rfl (three_set _ _ _ R.out) Try.underlying23 rfl (by kernel_rfl)) rfl ⟨rfl, dk3 _ _ _ HD3.out (by omega), grown3 _ _ _ G3.out (by omega)⟩
set_option maxHeartbeats 1000000 in
theorem refrenew_no (d c : Clm) (t : Int) (w : World) (h : tickB t = false) :
    Calls Try.prog 16 #[.agg d.cells, .agg c.cells, .int .i64 t] w fun e w' => e = .returned (.tuple #[.agg (⟨0, 0, 0⟩ : Clm).cells, .int .i64 1]) ∧ Below w.heap.size w w' := by
  have KT := hid (fun w => tick_any t w)
  rw [h] at KT
  rw [nilC]
  obtain ⟨e0, w0, u0⟩ := d
  obtain ⟨e, wh, u⟩ := c
  simp only [Clm.cells] at *
  clear h
  go_enter Try.func16, Try.ntmps16
  go_wp2_with (go_at_call 19; refine (KT.out _).mono ?_; rintro _ w1 ⟨rfl, rfl⟩)
  all_goals go_returns
  all_goals exact ⟨rfl, by go_grown⟩
set_option maxHeartbeats 1000000 in
theorem refrenew_lapse (d c : Clm) (t : Int) (w : World) (h : tickB t = true) (hl : leadsB c t = false) :
    Calls Try.prog 16 #[.agg d.cells, .agg c.cells, .int .i64 t] w fun e w' => e = .returned (.tuple #[.agg (⟨0, 0, 0⟩ : Clm).cells, .int .i64 171]) ∧ Below w.heap.size w w' := by
  have KT := hid (fun w => tick_any t w)
  have KL := hid (fun w => refleads_any c t w)
  have ht : 0 ≤ t ∧ t < 1099511627776 := by simpa [tickB] using h
  obtain ⟨ht1, ht2⟩ := ht
  rw [h] at KT
  rw [hl] at KL
  obtain ⟨e0, w0, u0⟩ := d
  obtain ⟨e, wh, u⟩ := c
  simp only [Clm.cells] at *
  clear h hl
  go_enter Try.func16, Try.ntmps16
  go_wp2_with (go_at_call 19; refine (KT.out _).mono ?_; rintro _ w1 ⟨rfl, rfl⟩)
  refine (KL.out _).mono ?_
  rintro _ w2 ⟨rfl, hb⟩
  have g := hid (show Below w.heap.size w w2 from below_step (by go_grown) (by simp; omega) hb)
  obtain ⟨b0, b1, b2⟩ := three_of (grown_below hb none) (fun _ h => by cases h)
  obtain ⟨a0, a1, a2⟩ := three b0
  obtain ⟨c0, c1, c2⟩ := three b1
  obtain ⟨k0, k1, k2⟩ := threeF b1
  obtain ⟨d0, d1, d2⟩ := three b2
  obtain ⟨f0, f1, f2⟩ := threeF b2
  have R := hid b2
  clear hb b0 b1 b2
  go_wp2_with fail
  all_goals exact bodyPost_ret (v := .tuple #[.agg #[.int .i64 0, .int .i64 0, .int .i64 0], .int .i64 171]) (results_row_tmp Try.results16 _ _ (w.heap.size + 1 + 1) 23 _ (0, 0) _ _ rfl rfl (three_set _ _ _ R.out) Try.underlying23 rfl (by kernel_rfl)) rfl ⟨rfl, three_below _ _ _ g.out (by omega)⟩
set_option maxHeartbeats 1000000 in
theorem refrenew_arg (d c : Clm) (t : Int) (w : World) (h : tickB t = true) (hl : leadsB c t = true) (h2 : 1099511627776 < c.e) :
    Calls Try.prog 16 #[.agg d.cells, .agg c.cells, .int .i64 t] w fun e w' => e = .returned (.tuple #[.agg (⟨0, 0, 0⟩ : Clm).cells, .int .i64 1]) ∧ Below w.heap.size w w' := by
  have KT := hid (fun w => tick_any t w)
  have KL := hid (fun w => refleads_any c t w)
  have ht : 0 ≤ t ∧ t < 1099511627776 := by simpa [tickB] using h
  obtain ⟨ht1, ht2⟩ := ht
  rw [h] at KT
  rw [hl] at KL
  obtain ⟨e0, w0, u0⟩ := d
  obtain ⟨e, wh, u⟩ := c
  simp only [Clm.cells] at *
  clear h hl
  go_enter Try.func16, Try.ntmps16
  go_wp2_with (go_at_call 19; refine (KT.out _).mono ?_; rintro _ w1 ⟨rfl, rfl⟩)
  refine (KL.out _).mono ?_
  rintro _ w2 ⟨rfl, hb⟩
  have g := hid (show Below w.heap.size w w2 from below_step (by go_grown) (by simp; omega) hb)
  obtain ⟨b0, b1, b2⟩ := three_of (grown_below hb none) (fun _ h => by cases h)
  obtain ⟨a0, a1, a2⟩ := three b0
  obtain ⟨c0, c1, c2⟩ := three b1
  obtain ⟨k0, k1, k2⟩ := threeF b1
  obtain ⟨d0, d1, d2⟩ := three b2
  obtain ⟨f0, f1, f2⟩ := threeF b2
  have R := hid b2
  clear hb b0 b1 b2
  go_wp2_with fail
  all_goals exact bodyPost_ret (v := .tuple #[.agg #[.int .i64 0, .int .i64 0, .int .i64 0], .int .i64 1]) (results_row_tmp Try.results16 _ _ (w.heap.size + 1 + 1) 23 _ (0, 0) _ _ rfl rfl (three_set _ _ _ R.out) Try.underlying23 rfl (by kernel_rfl)) rfl ⟨rfl, three_below _ _ _ g.out (by omega)⟩
set_option maxHeartbeats 1000000 in
theorem refrenew_fenced (d c : Clm) (t : Int) (w : World) (h : tickB t = true) (hl : leadsB c t = true) (h2 : ¬ 1099511627776 < c.e) (hne : d ≠ c) :
    Calls Try.prog 16 #[.agg d.cells, .agg c.cells, .int .i64 t] w fun e w' => e = .returned (.tuple #[.agg (⟨0, 0, 0⟩ : Clm).cells, .int .i64 150]) ∧ Below w.heap.size w w' := by
  have KT := hid (fun w => tick_any t w)
  have KL := hid (fun w => refleads_any c t w)
  have ht : 0 ≤ t ∧ t < 1099511627776 := by simpa [tickB] using h
  obtain ⟨ht1, ht2⟩ := ht
  rw [h] at KT
  rw [hl] at KL
  obtain ⟨e0, w0, u0⟩ := d
  obtain ⟨e, wh, u⟩ := c
  simp only [Clm.cells] at *
  clear h hl
  have hx : e0 = e → w0 = wh → u0 = u → False := fun h1 h2 h3 => hne (by rw [h1, h2, h3])
  clear hne
  by_cases q1 : e0 = e
  · by_cases q2 : w0 = wh
    · have q3 : (u0 == u) = false := by simpa using hx q1 q2
      subst q1 q2
      clear hx
      go_enter Try.func16, Try.ntmps16
      go_wp2_with (go_at_call 19; refine (KT.out _).mono ?_; rintro _ w1 ⟨rfl, rfl⟩)
      refine (KL.out _).mono ?_
      rintro _ w2 ⟨rfl, hb⟩
      have g := hid (show Below w.heap.size w w2 from below_step (by go_grown) (by simp; omega) hb)
      obtain ⟨b0, b1, b2⟩ := three_of (grown_below hb none) (fun _ h => by cases h)
      obtain ⟨a0, a1, a2⟩ := three b0
      obtain ⟨c0, c1, c2⟩ := three b1
      obtain ⟨k0, k1, k2⟩ := threeF b1
      obtain ⟨d0, d1, d2⟩ := three b2
      obtain ⟨f0, f1, f2⟩ := threeF b2
      have R := hid b2
      clear hb b0 b1 b2
      go_wp2_with fail
      all_goals exact bodyPost_ret (v := .tuple #[.agg #[.int .i64 0, .int .i64 0, .int .i64 0], .int .i64 150]) (results_row_tmp Try.results16 _ _ (w.heap.size + 1 + 1) 23 _ (0, 0) _ _ rfl rfl (three_set _ _ _ R.out) Try.underlying23 rfl (by kernel_rfl)) rfl ⟨rfl, three_below _ _ _ g.out (by omega)⟩
    · have q3 : (w0 == wh) = false := by simpa using q2
      subst q1
      clear hx q2
      go_enter Try.func16, Try.ntmps16
      go_wp2_with (go_at_call 19; refine (KT.out _).mono ?_; rintro _ w1 ⟨rfl, rfl⟩)
      refine (KL.out _).mono ?_
      rintro _ w2 ⟨rfl, hb⟩
      have g := hid (show Below w.heap.size w w2 from below_step (by go_grown) (by simp; omega) hb)
      obtain ⟨b0, b1, b2⟩ := three_of (grown_below hb none) (fun _ h => by cases h)
      obtain ⟨a0, a1, a2⟩ := three b0
      obtain ⟨c0, c1, c2⟩ := three b1
      obtain ⟨k0, k1, k2⟩ := threeF b1
      obtain ⟨d0, d1, d2⟩ := three b2
      obtain ⟨f0, f1, f2⟩ := threeF b2
      have R := hid b2
      clear hb b0 b1 b2
      go_wp2_with fail
      all_goals exact bodyPost_ret (v := .tuple #[.agg #[.int .i64 0, .int .i64 0, .int .i64 0], .int .i64 150]) (results_row_tmp Try.results16 _ _ (w.heap.size + 1 + 1) 23 _ (0, 0) _ _ rfl rfl (three_set _ _ _ R.out) Try.underlying23 rfl (by kernel_rfl)) rfl ⟨rfl, three_below _ _ _ g.out (by omega)⟩
  · have q3 : (e0 == e) = false := by simpa using q1
    clear hx q1
    go_enter Try.func16, Try.ntmps16
    go_wp2_with (go_at_call 19; refine (KT.out _).mono ?_; rintro _ w1 ⟨rfl, rfl⟩)
    refine (KL.out _).mono ?_
    rintro _ w2 ⟨rfl, hb⟩
    have g := hid (show Below w.heap.size w w2 from below_step (by go_grown) (by simp; omega) hb)
    obtain ⟨b0, b1, b2⟩ := three_of (grown_below hb none) (fun _ h => by cases h)
    obtain ⟨a0, a1, a2⟩ := three b0
    obtain ⟨c0, c1, c2⟩ := three b1
    obtain ⟨k0, k1, k2⟩ := threeF b1
    obtain ⟨d0, d1, d2⟩ := three b2
    obtain ⟨f0, f1, f2⟩ := threeF b2
    have R := hid b2
    clear hb b0 b1 b2
    go_wp2_with fail
    all_goals exact bodyPost_ret (v := .tuple #[.agg #[.int .i64 0, .int .i64 0, .int .i64 0], .int .i64 150]) (results_row_tmp Try.results16 _ _ (w.heap.size + 1 + 1) 23 _ (0, 0) _ _ rfl rfl (three_set _ _ _ R.out) Try.underlying23 rfl (by kernel_rfl)) rfl ⟨rfl, three_below _ _ _ g.out (by omega)⟩
set_option maxHeartbeats 1000000 in
theorem refrenew_ok (d : Clm) (t : Int) (w : World) (h : tickB t = true) (hl : leadsB d t = true) (h2 : ¬ 1099511627776 < d.e) :
    Calls Try.prog 16 #[.agg d.cells, .agg d.cells, .int .i64 t] w fun e w' => e = .returned (.tuple #[.agg (⟨d.e, d.w, nextU d.u t⟩ : Clm).cells, .int .i64 0]) ∧ Below w.heap.size w w' := by
  have KT := hid (fun w => tick_any t w)
  have KL := hid (fun w => refleads_any d t w)
  have ht : 0 ≤ t ∧ t < 1099511627776 := by simpa [tickB] using h
  obtain ⟨ht1, ht2⟩ := ht
  rw [h] at KT
  rw [hl] at KL
  obtain ⟨e0, w0, u0⟩ := d
  simp only [Clm.cells] at *
  clear h hl
  have hnx : nextU u0 t = if u0 < t + 40 then t + 40 else u0 := rfl
  have HN := hid hnx
  generalize nextU u0 t = nu at *
  clear hnx
  by_cases hu : u0 < t + 40
  · have hn' := HN.out
    rw [if_pos hu] at hn'
    subst hn'
    go_enter Try.func16, Try.ntmps16
    go_wp2_with (go_at_call 19; refine (KT.out _).mono ?_; rintro _ w1 ⟨rfl, rfl⟩)
    refine (KL.out _).mono ?_
    rintro _ w2 ⟨rfl, hb⟩
    have g := hid (show Below w.heap.size w w2 from below_step (by go_grown) (by simp; omega) hb)
    obtain ⟨b0, b1, b2⟩ := three_of (grown_below hb none) (fun _ h => by cases h)
    obtain ⟨a0, a1, a2⟩ := three b0
    obtain ⟨c0, c1, c2⟩ := three b1
    obtain ⟨k0, k1, k2⟩ := threeF b1
    obtain ⟨d0, d1, d2⟩ := three b2
    obtain ⟨f0, f1, f2⟩ := threeF b2
    have R := hid b2
    have R2 : ∀ v, (w2.setCell ⟨w.heap.size + 1, 2, none⟩ v).heap[w.heap.size + 1 + 1]? = some (.cells #[.int .i64 0, .int .i64 0, .int .i64 0] 23) := fun v => (heap_setCell_other _ _ _ _ (by simp only; omega)).trans b2
    have R3 := hid R2
    clear hb b0 b1 b2 R2
    go_wp2_with fail
    all_goals exact bodyPost_ret (v := .tuple #[.agg #[.int .i64 e0, .int .i64 w0, .int .i64 (t + 40)], .int .i64 0]) (results_row_tmp Try.results16 _ _ (w.heap.size + 1 + 1) 23 _ (0, 0) _ _ rfl rfl (three_set _ _ _ (R3.out _)) Try.underlying23 rfl (by kernel_rfl)) rfl ⟨rfl, three_below _ _ _ (g.out.setCell (p := ⟨w.heap.size + 1, 2, none⟩) (by simp only; omega) _) (by omega)⟩
  · have hn' := HN.out
    rw [if_neg hu] at hn'
    subst hn'
    go_enter Try.func16, Try.ntmps16
    go_wp2_with (go_at_call 19; refine (KT.out _).mono ?_; rintro _ w1 ⟨rfl, rfl⟩)
    refine (KL.out _).mono ?_
    rintro _ w2 ⟨rfl, hb⟩
    have g := hid (show Below w.heap.size w w2 from below_step (by go_grown) (by simp; omega) hb)
    obtain ⟨b0, b1, b2⟩ := three_of (grown_below hb none) (fun _ h => by cases h)
    obtain ⟨a0, a1, a2⟩ := three b0
    obtain ⟨c0, c1, c2⟩ := three b1
    obtain ⟨k0, k1, k2⟩ := threeF b1
    obtain ⟨d0, d1, d2⟩ := three b2
    obtain ⟨f0, f1, f2⟩ := threeF b2
    have R := hid b2
    have R2 : ∀ v, (w2.setCell ⟨w.heap.size + 1, 2, none⟩ v).heap[w.heap.size + 1 + 1]? = some (.cells #[.int .i64 0, .int .i64 0, .int .i64 0] 23) := fun v => (heap_setCell_other _ _ _ _ (by simp only; omega)).trans b2
    have R3 := hid R2
    clear hb b0 b1 b2 R2
    go_wp2_with fail
    all_goals exact bodyPost_ret (v := .tuple #[.agg #[.int .i64 e0, .int .i64 w0, .int .i64 (nu)], .int .i64 0]) (results_row_tmp Try.results16 _ _ (w.heap.size + 1 + 1) 23 _ (0, 0) _ _ rfl rfl (three_set _ _ _ (R3.out _)) Try.underlying23 rfl (by kernel_rfl)) rfl ⟨rfl, three_below _ _ _ (g.out.setCell (p := ⟨w.heap.size + 1, 2, none⟩) (by simp only; omega) _) (by omega)⟩
end Go.Proofs.Ythbbempmppnpkaa
