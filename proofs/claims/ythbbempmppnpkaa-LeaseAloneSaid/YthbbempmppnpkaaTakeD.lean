/- lease.Take at any disk. Condition: the disk stands in memory. -/
import Derived.Test.YthbbempmppnpkaaTake
namespace Go.Proofs.Ythbbempmppnpkaa
open Go Go.RowKit
open Classical in
noncomputable def afterF (c : Clm) (T : Clm × Int) : Clm := if T.2 = 0 then T.1 else c
theorem nilC : (⟨0, 0, 0⟩ : Clm).cells = #[.int .i64 0, .int .i64 0, .int .i64 0] := rfl
theorem keep1 {w w2 : World} {o : Obj} (hb : Below (w.alloc o).heap.size (w.alloc o) w2) : w2.heap[w.heap.size]? = some o := keep0 hb (heap_new w o)
set_option maxHeartbeats 1000000 in
theorem take_no (db : Nat) (who t : Int) (w : World) (h : who < 0 ∨ tickB t = false) :
    Calls Try.prog 12 #[.pointer (some ⟨db, 0, none⟩), .int .i64 who, .int .i64 t] w fun e w' => e = .returned (.tuple #[.agg (⟨0, 0, 0⟩ : Clm).cells, .int .i64 1]) ∧ Below w.heap.size w w' := by
  have KT := hid (fun w => istick_any t w)
  rw [nilC]
  by_cases h1 : who < 0
  · clear h
    generalize tickB t = tk at *
    go_enter Try.func12, Try.ntmps12
    go_wp2_with (go_at_call 24; refine (KT.out _).mono ?_; rintro _ w1 ⟨rfl, rfl⟩)
    all_goals go_returns
    all_goals exact ⟨rfl, by go_grown⟩
  · have hf : tickB t = false := by
      rcases h with h | h
      · exact absurd h h1
      · exact h
    rw [hf] at KT
    clear h hf
    go_enter Try.func12, Try.ntmps12
    go_wp2_with (go_at_call 24; refine (KT.out _).mono ?_; rintro _ w1 ⟨rfl, rfl⟩)
    all_goals go_returns
    all_goals exact ⟨rfl, by go_grown⟩
set_option maxHeartbeats 1000000 in
theorem take_held (db : Nat) (c : Clm) (who t : Int) (w : World) (hd : DK w db c) (hc : c.ok) (h1 : ¬ who < 0) (htk : tickB t = true) (h0 : heldF c who t ≠ 0) :
    Calls Try.prog 12 #[.pointer (some ⟨db, 0, none⟩), .int .i64 who, .int .i64 t] w fun e w' => e = .returned (.tuple #[.agg (⟨0, 0, 0⟩ : Clm).cells, .int .i64 (heldF c who t)]) ∧ Below w.heap.size w w' := by
  have KT := hid (fun w => istick_any t w)
  have KH := hid (fun w => held_any c who t w hc)
  rw [htk] at KT
  rw [nilC]
  generalize heldF c who t = E at *
  have z : (E != 0) = true := by simpa using h0
  obtain ⟨e, wh, u⟩ := c
  have KC := hid (claim_any db ⟨e, wh, u⟩ (w.alloc (.cells #[.int .i64 0, .int .i64 0, .int .i64 0] 23)) (hd.keep (by go_grown)))
  simp only [Clm.cells] at *
  clear hd hc htk h0
  go_enter Try.func12, Try.ntmps12
  go_wp2_with (go_at_call 24; refine (KT.out _).mono ?_; rintro _ w1 ⟨rfl, rfl⟩)
  refine KC.out.mono ?_
  rintro _ w2 ⟨rfl, hb⟩
  have b1 := keep1 hb
  have g2 := hid (show Below w.heap.size w w2 from below_step (by go_grown) (by simp) hb)
  have B1 := hid (heapA (o := .cells #[.int .i64 e, .int .i64 wh, .int .i64 u] 23) b1)
  have c2 := three (heap_new w2 (.cells #[.int .i64 e, .int .i64 wh, .int .i64 u] 23))
  obtain ⟨c20, c21, c22⟩ := c2
  clear hb b1 KC
  go_wp2_with fail
  refine (KH.out _).mono ?_
  rintro _ w3 ⟨rfl, hb⟩
  have b1 := keep0 hb B1.out
  have g3 := hid (show Below w.heap.size w w3 from below_step (g2.out.alloc g2.out.size _) (by have := g2.out.size; simp; omega) hb)
  have R := hid b1
  obtain ⟨d0, d1, d2⟩ := three b1
  obtain ⟨f0, f1, f2⟩ := threeF b1
  clear hb b1 c20 c21 c22
  go_wp2_with fail
  all_goals exact bodyPost_ret (v := .tuple #[.agg #[.int .i64 0, .int .i64 0, .int .i64 0], .int .i64 E]) (results_row_tmp Try.results12 _ _ (w.heap.size) 23 _ (0, 0) _ _ rfl rfl (three_set _ _ _ R.out) Try.underlying23 rfl (by kernel_rfl)) rfl ⟨rfl, three_below _ _ _ g3.out (Nat.le_refl _)⟩
set_option maxHeartbeats 1000000 in
theorem take_ok (db : Nat) (c : Clm) (who t : Int) (w : World) (hd : DK w db c) (hc : c.ok) (h1 : ¬ who < 0) (htk : tickB t = true) (h0 : heldF c who t = 0) (h3 : ¬ 1099511627776 ≤ c.e) :
    Calls Try.prog 12 #[.pointer (some ⟨db, 0, none⟩), .int .i64 who, .int .i64 t] w fun e w' => e = .returned (.tuple #[.agg (⟨c.e + 1, who, t + 40⟩ : Clm).cells, .int .i64 0]) ∧ DK w' db ⟨c.e + 1, who, t + 40⟩ ∧ w.grownBy w' (some db) := by
  have KT := hid (fun w => istick_any t w)
  have KH := hid (fun w => held_any c who t w hc)
  have ht : 0 ≤ t ∧ t < 1099511627776 := by simpa [tickB] using htk
  obtain ⟨ht1, ht2⟩ := ht
  obtain ⟨he1, he2⟩ := hc.1
  rw [htk] at KT
  rw [h0] at KH
  have hlt := lt_of hd
  have HD := hid hd
  obtain ⟨e, wh, u⟩ := c
  have KC := hid (claim_any db ⟨e, wh, u⟩ (w.alloc (.cells #[.int .i64 0, .int .i64 0, .int .i64 0] 23)) (hd.keep (by go_grown)))
  have KP := hid (fun w4 (hb : Below w.heap.size w w4) => put_yes db ⟨e, wh, u⟩ ⟨e + 1, who, t + 40⟩ w4 (HD.out.keep hb) (by simp only; omega) (by simp only at h3 ⊢; omega))
  simp only [Clm.cells] at *
  clear hd hc htk h0
  go_enter Try.func12, Try.ntmps12
  go_wp2_with (go_at_call 24; refine (KT.out _).mono ?_; rintro _ w1 ⟨rfl, rfl⟩)
  refine KC.out.mono ?_
  rintro _ w2 ⟨rfl, hb⟩
  have b1 := keep1 hb
  have g2 := hid (show Below w.heap.size w w2 from below_step (by go_grown) (by simp) hb)
  have B1 := hid (heapA (o := .cells #[.int .i64 e, .int .i64 wh, .int .i64 u] 23) b1)
  have B2 := hid (heap_new w2 (.cells #[.int .i64 e, .int .i64 wh, .int .i64 u] 23))
  obtain ⟨c20, c21, c22⟩ := three B2.out
  clear hb b1 KC
  go_wp2_with fail
  refine (KH.out _).mono ?_
  rintro _ w3 ⟨rfl, hb⟩
  have R1 := hid (keep0 hb B1.out)
  have b2 := keep0 hb B2.out
  have g3 := hid (show Below w.heap.size w w3 from below_step (g2.out.alloc g2.out.size _) (by have := g2.out.size; simp; omega) hb)
  obtain ⟨d0, d1, d2⟩ := three b2
  have K4 := hid (KP.out w3 g3.out)
  clear hb b2 c20 c21 c22 KP
  go_wp2_with fail
  refine K4.out.mono ?_
  rintro _ w4 ⟨rfl, hd4, hg4⟩
  have HD4 := hid hd4
  have G4 := hid (grown_trans (grown_below g3.out (some db)) hg4)
  have b1 : w4.heap[w.heap.size]? = some (.cells #[.int .i64 0, .int .i64 0, .int .i64 0] 23) := by rw [hg4.block _ (lt_of R1.out) (fun e => by cases e; omega), R1.out]
  have R := hid b1
  obtain ⟨k0, k1, k2⟩ := three b1
  obtain ⟨f0, f1, f2⟩ := threeF b1
  clear hd4 hg4 b1 K4 d0 d1 d2
  go_wp2_with fail
  all_goals exact bodyPost_ret (v := .tuple #[.agg #[.int .i64 (e + 1), .int .i64 who, .int .i64 (t + 40)], .int .i64 0]) (results_row_tmp Try.results12 _ _ (w.heap.size) 23 _ (0, 0) _ _ rfl rfl (three_set _ _ _ R.out) Try.underlying23 rfl (by kernel_rfl)) rfl ⟨rfl, dk3 _ _ _ HD4.out (by omega), grown3 _ _ _ G4.out (Nat.le_refl _)⟩
end Go.Proofs.Ythbbempmppnpkaa
