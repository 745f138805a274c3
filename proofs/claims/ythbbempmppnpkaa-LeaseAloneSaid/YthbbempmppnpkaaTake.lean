/- lease.Take and the document's, at any claims. Condition: the disk stands in memory. -/
import Derived.Test.YthbbempmppnpkaaLease
namespace Go.Proofs.Ythbbempmppnpkaa
open Go Go.RowKit
theorem takeF_no {c : Clm} {who t : Int} (h : who < 0 ∨ tickB t = false) : takeF c who t = (⟨0, 0, 0⟩, 1) := if_pos h
theorem takeF_held {c : Clm} {who t : Int} (h : ¬ who < 0) (h1 : tickB t = true) (h2 : freeB c who t = false) : takeF c who t = (⟨0, 0, 0⟩, 170) := by
  unfold takeF
  rw [if_neg (by rw [h1]; simp [h]), if_pos h2]
theorem takeF_lim {c : Clm} {who t : Int} (h : ¬ who < 0) (h1 : tickB t = true) (h2 : freeB c who t = true) (h3 : 1099511627776 ≤ c.e) : takeF c who t = (⟨0, 0, 0⟩, 2) := by
  unfold takeF
  rw [if_neg (by rw [h1]; simp [h]), if_neg (by rw [h2]; simp), if_pos h3]
theorem takeF_ok {c : Clm} {who t : Int} (h : ¬ who < 0) (h1 : tickB t = true) (h2 : freeB c who t = true) (h3 : ¬ 1099511627776 ≤ c.e) : takeF c who t = (⟨c.e + 1, who, t + 40⟩, 0) := by
  unfold takeF
  rw [if_neg (by rw [h1]; simp [h]), if_neg (by rw [h2]; simp), if_neg h3]
theorem heapA {w : World} {o c : Obj} {k : Nat} (h : w.heap[k]? = some c) : (w.alloc o).heap[k]? = some c := (Below.heap_alloc _ _ _ (lt_of h)).trans h
theorem two_of {w w2 : World} {o1 o2 : Obj} (hb : Below ((w.alloc o1).alloc o2).heap.size ((w.alloc o1).alloc o2) w2) : w2.heap[w.heap.size]? = some o1 ∧ w2.heap[w.heap.size + 1]? = some o2 :=
  ⟨keep0 hb (heapA (heap_new w o1)), keep0 hb (by simpa using heap_new (w.alloc o1) o2)⟩
theorem three_of {w w2 : World} {o1 o2 o3 : Obj} {r : Option Nat} (hg : (((w.alloc o1).alloc o2).alloc o3).grownBy w2 r) (hr : ∀ k, r = some k → k < w.heap.size) : w2.heap[w.heap.size]? = some o1 ∧ w2.heap[w.heap.size + 1]? = some o2 ∧ w2.heap[w.heap.size + 1 + 1]? = some o3 := by
  have h1 : (((w.alloc o1).alloc o2).alloc o3).heap[w.heap.size]? = some o1 := heapA (heapA (heap_new w o1))
  have h2 : (((w.alloc o1).alloc o2).alloc o3).heap[w.heap.size + 1]? = some o2 := heapA (by simpa using heap_new (w.alloc o1) o2)
  have h3 : (((w.alloc o1).alloc o2).alloc o3).heap[w.heap.size + 1 + 1]? = some o3 := by simpa using heap_new ((w.alloc o1).alloc o2) o3
  refine ⟨?_, ?_, ?_⟩
  · rw [hg.block _ (lt_of h1) (fun e => by have := hr _ e.symm; omega), h1]
  · rw [hg.block _ (lt_of h2) (fun e => by have := hr _ e.symm; omega), h2]
  · rw [hg.block _ (lt_of h3) (fun e => by have := hr _ e.symm; omega), h3]
theorem grown_new {w w5 : World} {r : Option Nat} {g i : Nat} (v : Value) (h : w.grownBy w5 r) (hg : w.heap.size ≤ g) : w.grownBy (w5.setCell ⟨g, i, none⟩ v) r :=
  ⟨h.os, h.tape, h.output, by simpa using h.size, fun k hk hne => (heap_setCell_other _ _ _ _ (by simp only; omega)).trans (h.block k hk hne)⟩
theorem grown3 {w w5 : World} {r : Option Nat} {g : Nat} (v0 v1 v2 : Value) (h : w.grownBy w5 r) (hg : w.heap.size ≤ g) : w.grownBy (((w5.setCell ⟨g, 0, none⟩ v0).setCell ⟨g, 1, none⟩ v1).setCell ⟨g, 2, none⟩ v2) r :=
  grown_new _ (grown_new _ (grown_new _ h hg) hg) hg
theorem dk3 {w : World} {db g : Nat} {c : Clm} (v0 v1 v2 : Value) (h : DK w db c) (hg : g ≠ db) : DK (((w.setCell ⟨g, 0, none⟩ v0).setCell ⟨g, 1, none⟩ v1).setCell ⟨g, 2, none⟩ v2) db c := by
  unfold DK at *
  rw [heap_setCell_other _ _ _ _ (by simp only; omega), heap_setCell_other _ _ _ _ (by simp only; omega), heap_setCell_other _ _ _ _ (by simp only; omega), h]
theorem grownA {w w2 : World} {o : Obj} {r : Option Nat} (h : (w.alloc o).grownBy w2 r) : w.grownBy w2 r :=
  ⟨h.os, h.tape, h.output, Nat.le_trans (by simp) h.size, fun k hk hne => (h.block k (by simp; omega) hne).trans (Below.heap_alloc _ _ _ hk)⟩
theorem three {w : World} {B : Nat} {a0 a1 a2 : Value} {T : TypeId} (h : w.heap[B]? = some (.cells #[a0, a1, a2] T (0, 0))) : w.cell? ⟨B, 0, none⟩ = some a0 ∧ w.cell? ⟨B, 1, none⟩ = some a1 ∧ w.cell? ⟨B, 2, none⟩ = some a2 := by
  refine ⟨?_, ?_, ?_⟩
  · rw [cell_of h 0]; rfl
  · rw [cell_of h 1]; rfl
  · rw [cell_of h 2]; rfl
theorem threeF {w : World} {B : Nat} {cs : Array Value} {T : TypeId} (h : w.heap[B]? = some (.cells cs T (0, 0))) : w.frozen? ⟨B, 0, none⟩ = false ∧ w.frozen? ⟨B, 1, none⟩ = false ∧ w.frozen? ⟨B, 2, none⟩ = false :=
  ⟨free_of h 0, free_of h 1, free_of h 2⟩
theorem three_below {B g : Nat} {a w2 : World} (v0 v1 v2 : Value) (h : Below B a w2) (hg : B ≤ g) : Below B a (((w2.setCell ⟨g, 0, none⟩ v0).setCell ⟨g, 1, none⟩ v1).setCell ⟨g, 2, none⟩ v2) :=
  ((h.setCell (p := ⟨g, 0, none⟩) hg _).setCell (p := ⟨g, 1, none⟩) hg _).setCell (p := ⟨g, 2, none⟩) hg _
theorem three_set {w2 : World} {B : Nat} {T : TypeId} {a0 a1 a2 : Value} (v0 v1 v2 : Value) (h : w2.heap[B]? = some (.cells #[a0, a1, a2] T (0, 0))) :
    (((w2.setCell ⟨B, 0, none⟩ v0).setCell ⟨B, 1, none⟩ v1).setCell ⟨B, 2, none⟩ v2).heap[B]? = some (.cells #[v0, v1, v2] T (0, 0)) := by
  have h0 := heap_setCell_same w2 B 0 _ T v0 h
  have h1 := heap_setCell_same _ B 1 _ T v1 h0
  have h2 := heap_setCell_same _ B 2 _ T v2 h1
  simpa using h2
set_option maxHeartbeats 1000000 in
theorem reftake_any (c : Clm) (who t : Int) (w : World) (hc : c.ok) : Calls Try.prog 13 #[.agg c.cells, .int .i64 who, .int .i64 t] w fun e w' => e = .returned (.tuple #[.agg (takeF c who t).1.cells, .int .i64 (takeF c who t).2]) ∧ Below w.heap.size w w' := by
  have KF := hid (fun w => free_any c who t w hc)
  have KT := hid (fun w => tick_any t w)
  obtain ⟨he1, he2⟩ := hc.1
  by_cases h1 : who < 0
  · rw [takeF_no (.inl h1)]
    generalize tickB t = tk at *
    obtain ⟨e, wh, u⟩ := c
    simp only [Clm.cells] at *
    clear hc KF
    go_enter Try.func13, Try.ntmps13
    go_wp2_with (go_at_call 19; refine (KT.out _).mono ?_; rintro _ w1 ⟨rfl, rfl⟩)
    all_goals go_returns
    all_goals exact ⟨rfl, by go_grown⟩
  · by_cases htk : tickB t = true
    · have ht : 0 ≤ t ∧ t < 1099511627776 := by simpa [tickB] using htk
      obtain ⟨ht1, ht2⟩ := ht
      rw [htk] at KT
      by_cases hfr : freeB c who t = true
      · rw [hfr] at KF
        by_cases h3 : 1099511627776 ≤ c.e
        · rw [takeF_lim h1 htk hfr h3]
          obtain ⟨e, wh, u⟩ := c
          simp only [Clm.cells] at *
          clear hc htk hfr
          go_enter Try.func13, Try.ntmps13
          go_wp2_with (first | (go_at_call 19; refine (KT.out _).mono ?_; rintro _ w1 ⟨rfl, rfl⟩))
          refine (KF.out _).mono ?_
          rintro _ w2 ⟨rfl, hb⟩
          have g := hid (show Below w.heap.size w w2 from below_step (by go_grown) (by simp; omega) hb)
          obtain ⟨b1, b2⟩ := two_of hb
          obtain ⟨c0, c1, c2⟩ := three b1
          obtain ⟨d0, d1, d2⟩ := three b2
          obtain ⟨f0, f1, f2⟩ := threeF b2
          have R := hid b2
          clear hb b1 b2
          go_wp2_with fail
          all_goals exact bodyPost_ret (v := .tuple #[.agg #[.int .i64 0, .int .i64 0, .int .i64 0], .int .i64 2]) (results_row_tmp Try.results13 _ _ (w.heap.size + 1) 23 _ (0, 0) _ _ rfl rfl (three_set _ _ _ R.out) Try.underlying23 rfl (by kernel_rfl)) rfl ⟨rfl, three_below _ _ _ g.out (by omega)⟩
        · rw [takeF_ok h1 htk hfr h3]
          obtain ⟨e, wh, u⟩ := c
          simp only [Clm.cells] at *
          clear hc htk hfr
          go_enter Try.func13, Try.ntmps13
          go_wp2_with (first | (go_at_call 19; refine (KT.out _).mono ?_; rintro _ w1 ⟨rfl, rfl⟩))
          refine (KF.out _).mono ?_
          rintro _ w2 ⟨rfl, hb⟩
          have g := hid (show Below w.heap.size w w2 from below_step (by go_grown) (by simp; omega) hb)
          obtain ⟨b1, b2⟩ := two_of hb
          obtain ⟨c0, c1, c2⟩ := three b1
          obtain ⟨d0, d1, d2⟩ := three b2
          obtain ⟨f0, f1, f2⟩ := threeF b2
          have R := hid b2
          clear hb b1 b2
          go_wp2_with fail
          all_goals exact bodyPost_ret (v := .tuple #[.agg #[.int .i64 (e + 1), .int .i64 who, .int .i64 (t + 40)], .int .i64 0]) (results_row_tmp Try.results13 _ _ (w.heap.size + 1) 23 _ (0, 0) _ _ rfl rfl (three_set _ _ _ R.out) Try.underlying23 rfl (by kernel_rfl)) rfl ⟨rfl, three_below _ _ _ g.out (by omega)⟩
      · have hff : freeB c who t = false := by simpa using hfr
        rw [takeF_held h1 htk hff]
        rw [hff] at KF
        clear hff
        obtain ⟨e, wh, u⟩ := c
        simp only [Clm.cells] at *
        clear hc htk hfr
        go_enter Try.func13, Try.ntmps13
        go_wp2_with (first | (go_at_call 19; refine (KT.out _).mono ?_; rintro _ w1 ⟨rfl, rfl⟩))
        refine (KF.out _).mono ?_
        rintro _ w2 ⟨rfl, hb⟩
        have g := hid (show Below w.heap.size w w2 from below_step (by go_grown) (by simp; omega) hb)
        obtain ⟨b1, b2⟩ := two_of hb
        obtain ⟨c0, c1, c2⟩ := three b1
        obtain ⟨d0, d1, d2⟩ := three b2
        obtain ⟨f0, f1, f2⟩ := threeF b2
        have R := hid b2
        clear hb b1 b2
        go_wp2_with fail
        all_goals exact bodyPost_ret (v := .tuple #[.agg #[.int .i64 0, .int .i64 0, .int .i64 0], .int .i64 170]) (results_row_tmp Try.results13 _ _ (w.heap.size + 1) 23 _ (0, 0) _ _ rfl rfl (three_set _ _ _ R.out) Try.underlying23 rfl (by kernel_rfl)) rfl ⟨rfl, three_below _ _ _ g.out (by omega)⟩
    · have hf : tickB t = false := by simpa using htk
      rw [takeF_no (.inr hf)]
      rw [hf] at KT
      obtain ⟨e, wh, u⟩ := c
      simp only [Clm.cells] at *
      clear hc htk KF hf
      go_enter Try.func13, Try.ntmps13
      go_wp2_with (go_at_call 19; refine (KT.out _).mono ?_; rintro _ w1 ⟨rfl, rfl⟩)
      all_goals go_returns
      all_goals exact ⟨rfl, by go_grown⟩
/-- lease.put where the swap is refused: nothing, and why. -/
theorem put_no (db : Nat) (a b : Clm) (E : Int) (w : World) (h0 : E ≠ 0) (K : ∀ w' : World, Below w.heap.size w w' → Calls Try.prog 10 #[.pointer (some ⟨db, 0, none⟩), .agg a.cells, .agg b.cells] w' fun e w'' => e = .returned (.int .i64 E) ∧ Below w'.heap.size w' w'') :
    Calls Try.prog 26 #[.pointer (some ⟨db, 0, none⟩), .agg a.cells, .agg b.cells] w fun e w' => e = .returned (.tuple #[.agg (⟨0, 0, 0⟩ : Clm).cells, .int .i64 E]) ∧ Below w.heap.size w w' := by
  obtain ⟨e1, w1, u1⟩ := a
  obtain ⟨e2, w2, u2⟩ := b
  simp only [Clm.cells] at *
  have HK := hid K
  have z : (E != 0) = true := by simpa using h0
  have g3 : Below w.heap.size w (((w.alloc (.cells #[.int .i64 e1, .int .i64 w1, .int .i64 u1] 23)).alloc (.cells #[.int .i64 e2, .int .i64 w2, .int .i64 u2] 23)).alloc (.cells #[.int .i64 0, .int .i64 0, .int .i64 0] 23)) := by go_grown
  have K1 := hid (K _ g3)
  have G3 := hid g3
  clear K HK h0 g3
  go_enter Try.func26, Try.ntmps26
  go_wp2_with fail
  refine K1.out.mono ?_
  rintro _ w5 ⟨rfl, hb⟩
  have g := hid (below_step G3.out G3.out.size hb)
  obtain ⟨_, _, b2⟩ := three_of (grown_below hb none) (fun _ h => by cases h)
  obtain ⟨d0, d1, d2⟩ := three b2
  obtain ⟨f0, f1, f2⟩ := threeF b2
  have R := hid b2
  clear hb b2 K1 G3
  go_wp2_with fail
  all_goals exact bodyPost_ret (v := .tuple #[.agg #[.int .i64 0, .int .i64 0, .int .i64 0], .int .i64 E]) (results_row_tmp Try.results26 _ _ (w.heap.size + 1 + 1) 23 _ (0, 0) _ _ rfl rfl (three_set _ _ _ R.out) Try.underlying23 rfl (by kernel_rfl)) rfl ⟨rfl, three_below _ _ _ g.out (by omega)⟩
/-- lease.put where the swap is done. -/
theorem put_yes (db : Nat) (a b : Clm) (w : World) (hd : DK w db a) (h : ¬ b.e < a.e) (h2 : ¬ 1099511627776 < b.e) :
    Calls Try.prog 26 #[.pointer (some ⟨db, 0, none⟩), .agg a.cells, .agg b.cells] w fun e w' => e = .returned (.tuple #[.agg b.cells, .int .i64 0]) ∧ DK w' db b ∧ w.grownBy w' (some db) := by
  have hlt := lt_of hd
  have K := fun w' (hb : Below w.heap.size w w') => swap_ok db a b w' (hd.keep hb) h h2
  obtain ⟨e1, w1, u1⟩ := a
  obtain ⟨e2, w2, u2⟩ := b
  have K1 := hid (K (((w.alloc (.cells #[.int .i64 e1, .int .i64 w1, .int .i64 u1] 23)).alloc (.cells #[.int .i64 e2, .int .i64 w2, .int .i64 u2] 23)).alloc (.cells #[.int .i64 0, .int .i64 0, .int .i64 0] 23)) (by go_grown))
  simp only [Clm.cells] at *
  clear K hd h h2
  go_enter Try.func26, Try.ntmps26
  go_wp2_with fail
  refine K1.out.mono ?_
  rintro _ w5 ⟨rfl, hd, hg⟩
  obtain ⟨_, b1, b2⟩ := three_of hg (fun k e => by cases e; exact hlt)
  obtain ⟨c0, c1, c2⟩ := three b1
  obtain ⟨d0, d1, d2⟩ := three b2
  obtain ⟨f0, f1, f2⟩ := threeF b2
  have R := hid b2
  have HD := hid hd
  have G := hid (grownA (grownA (grownA hg)))
  clear hd hg b1 b2 K1
  go_wp2_with fail
  all_goals exact bodyPost_ret (v := .tuple #[.agg #[.int .i64 e2, .int .i64 w2, .int .i64 u2], .int .i64 0]) (results_row_tmp Try.results26 _ _ (w.heap.size + 1 + 1) 23 _ (0, 0) _ _ rfl rfl (three_set _ _ _ R.out) Try.underlying23 rfl (by kernel_rfl)) rfl ⟨rfl, dk3 _ _ _ HD.out (by omega), grown3 _ _ _ G.out (by omega)⟩
end Go.Proofs.Ythbbempmppnpkaa
