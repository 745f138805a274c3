/- The closures of Take and Give; a row that is made anew, step by step. Conditions: amounts that may be; what they captured stands in memory. -/
import Derived.Test.YthkofnahimlijaaProf5
import Derived.StillTailTactics
namespace Go.Proofs.Ythkofnahimlijaa
open Go Go.RowKit
theorem four_cell {w : World} {B k i : Nat} {v0 v1 v2 v3 : Value} (h : k ≠ B) : ((((w.setCell ⟨B, 0, none⟩ v0).setCell ⟨B, 1, none⟩ v1).setCell ⟨B, 2, none⟩ v2).setCell ⟨B, 3, none⟩ v3).cell? ⟨k, i, none⟩ = w.cell? ⟨k, i, none⟩ :=
  World.cell?_of_block (by rw [heap_setCell_other _ _ _ _ h, heap_setCell_other _ _ _ _ h, heap_setCell_other _ _ _ _ h, heap_setCell_other _ _ _ _ h])
def mvT (v x : V4) : V4 × Bool := if v.leB x = true then (x.sub v, true) else (V4.z, false)
def mvG (W v x : V4) : V4 × Bool := if (x.add v).leB W = true then (x.add v, true) else ((addV x v).1, false)
theorem subV_eq {x v : V4} (hx : x.ok) (hv : v.ok) : subV x v = ((mvT v x).1, if (mvT v x).2 = true then 0 else 31) := by
  unfold subV mvT
  by_cases h : v.leB x = true
  · rw [if_pos h, if_pos ((V4.okB_iff _).2 ((V4.sub_ok hx hv).2 ((V4.leB_iff _ _).1 h)))]
    rfl
  · rw [if_neg h, if_neg (fun k => h ((V4.leB_iff _ _).2 ((V4.sub_ok hx hv).1 ((V4.okB_iff _).1 k))))]
    rfl
theorem take1_any (X : Nat) (v x : V4) (w : World) (hv : v.ok) (hx : x.ok) (h : w.heap[X]? = some (.cells #[.int .i64 v.a, .int .i64 v.b, .int .i64 v.c, .int .i64 v.d] 40 (0, 0))) :
    Calls Try.prog 63 #[.agg #[.int .i64 x.a, .int .i64 x.b, .int .i64 x.c, .int .i64 x.d], .pointer (some ⟨X, 0, none⟩)] w fun e w' => e = .returned (.tuple #[.agg #[.int .i64 ((mvT v x).1).a, .int .i64 ((mvT v x).1).b, .int .i64 ((mvT v x).1).c, .int .i64 ((mvT v x).1).d], .bool (mvT v x).2]) ∧ Below w.heap.size w w' := by
  have K : Hid (∀ w1, Calls Try.prog 64 #[.agg #[.int .i64 x.a, .int .i64 x.b, .int .i64 x.c, .int .i64 x.d], .agg #[.int .i64 v.a, .int .i64 v.b, .int .i64 v.c, .int .i64 v.d]] w1 fun e w' => e = .returned (.tuple #[.agg #[.int .i64 ((mvT v x).1).a, .int .i64 ((mvT v x).1).b, .int .i64 ((mvT v x).1).c, .int .i64 ((mvT v x).1).d], .int .i64 (if (mvT v x).2 = true then 0 else 31)]) ∧ Below w1.heap.size w1 w') := hid fun w1 => by
    have h := sub4 x v hx hv w1
    rw [subV_eq hx hv] at h
    exact h
  have X0 := hid (show ((w.alloc (.cells #[.int .i64 x.a, .int .i64 x.b, .int .i64 x.c, .int .i64 x.d] 40)).alloc (.cells #[.int .i64 0, .int .i64 0, .int .i64 0, .int .i64 0] 40)).heap[w.heap.size]? = some (.cells #[.int .i64 x.a, .int .i64 x.b, .int .i64 x.c, .int .i64 x.d] 40 (0, 0)) from heapA (heap_new w _))
  have R0 := hid (show ((w.alloc (.cells #[.int .i64 x.a, .int .i64 x.b, .int .i64 x.c, .int .i64 x.d] 40)).alloc (.cells #[.int .i64 0, .int .i64 0, .int .i64 0, .int .i64 0] 40)).heap[w.heap.size + 1]? = some (.cells #[.int .i64 0, .int .i64 0, .int .i64 0, .int .i64 0] 40 (0, 0)) from by simpa using heap_new (w.alloc (.cells #[.int .i64 x.a, .int .i64 x.b, .int .i64 x.c, .int .i64 x.d] 40)) (.cells #[.int .i64 0, .int .i64 0, .int .i64 0, .int .i64 0] 40))
  have V0 := hid (heapA (o := .cells #[.int .i64 0, .int .i64 0, .int .i64 0, .int .i64 0] 40) (heapA (o := .cells #[.int .i64 x.a, .int .i64 x.b, .int .i64 x.c, .int .i64 x.d] 40) h))
  have g0 := hid (show Below w.heap.size w ((w.alloc (.cells #[.int .i64 x.a, .int .i64 x.b, .int .i64 x.c, .int .i64 x.d] 40)).alloc (.cells #[.int .i64 0, .int .i64 0, .int .i64 0, .int .i64 0] 40)) from by go_grown)
  obtain ⟨x0, x1, x2, x3⟩ := four X0.out
  obtain ⟨v0, v1, v2, v3⟩ := four V0.out
  clear h hx hv
  generalize (mvT v x).1 = m at *
  cases hm : (mvT v x).2
  all_goals
    rw [hm] at K
    clear hm
    go_enter Try.func63, Try.ntmps63
    go_wp2_with fail
    refine (K.out _).mono ?_
    rintro _ w2 ⟨rfl, hb⟩
    have R2 := hid (heapA (o := .cells #[.int .i64 m.a, .int .i64 m.b, .int .i64 m.c, .int .i64 m.d] 40) (keep0 hb R0.out))
    have N2 := hid (heap_new w2 (.cells #[.int .i64 m.a, .int .i64 m.b, .int .i64 m.c, .int .i64 m.d] 40))
    have g2 := hid ((below_step g0.out g0.out.size hb).alloc (by have := g0.out.size; have := hb.size; omega) (.cells #[.int .i64 m.a, .int .i64 m.b, .int .i64 m.c, .int .i64 m.d] 40))
    clear hb
    obtain ⟨m0, m1, m2, m3⟩ := four N2.out
    obtain ⟨l0, l1, l2, l3⟩ := four R2.out
    obtain ⟨f0, f1, f2, f3⟩ := fourF R2.out
    go_wp2_with fail
    exact bodyPost_ret (v := .tuple #[.agg #[.int .i64 m.a, .int .i64 m.b, .int .i64 m.c, .int .i64 m.d], .bool _]) (results_row_tmp Try.results63 _ _ (w.heap.size + 1) 40 _ (0, 0) _ _ rfl rfl (four_set _ _ _ _ R2.out) Try.underlying40 rfl (by kernel_rfl)) rfl ⟨rfl, four_below _ _ _ _ g2.out (Nat.le_succ _)⟩
theorem V4.add_le_ok {x v W : V4} (hx : x.ok) (hv : v.ok) (hW : W.ok) (h : (x.add v).le W) : (x.add v).ok := by
  unfold V4.ok at *
  unfold V4.add V4.le at *
  simp only at *
  omega
theorem addV_eq {x v W : V4} (hx : x.ok) (hv : v.ok) (hW : W.ok) : (mvG W v x).1 = (addV x v).1 ∧ ((addV x v).2 = 30 ∨ (addV x v).2 = 0) ∧ ((addV x v).2 = 30 → (mvG W v x).2 = false) ∧ ((addV x v).2 = 0 → (mvG W v x).2 = (addV x v).1.leB W) := by
  unfold mvG addV
  by_cases h : (x.add v).okB = true
  · rw [if_pos h]
    by_cases k : (x.add v).leB W = true
    · rw [if_pos k]
      exact ⟨rfl, .inr rfl, fun h => by simp at h, fun _ => k.symm⟩
    · rw [if_neg k]
      exact ⟨rfl, .inr rfl, fun h => by simp at h, fun _ => by simpa using k⟩
  · rw [if_neg h]
    have k : ¬ (x.add v).leB W = true := fun k => h ((V4.okB_iff _).2 (V4.add_le_ok hx hv hW ((V4.leB_iff _ _).1 k)))
    rw [if_neg k]
    exact ⟨rfl, .inl rfl, fun _ => rfl, fun h => by simp at h⟩
set_option maxHeartbeats 4000000 in
theorem give1_any (X Y p : Nat) (sv : Value) (W v x : V4) (w : World) (hv : v.ok) (hx : x.ok) (hW : W.ok) (h : w.heap[X]? = some (.cells #[.int .i64 v.a, .int .i64 v.b, .int .i64 v.c, .int .i64 v.d] 40 (0, 0))) (hY : w.heap[Y]? = some (.cells #[.pointer (some ⟨p, 0, none⟩)] 81 (0, 0))) (hp : w.heap[p]? = some (.cells #[.int .i64 W.a, .int .i64 W.b, .int .i64 W.c, .int .i64 W.d, sv] 108 (0, 0))) :
    Calls Try.prog 69 #[.agg #[.int .i64 x.a, .int .i64 x.b, .int .i64 x.c, .int .i64 x.d], .pointer (some ⟨X, 0, none⟩), .pointer (some ⟨Y, 0, none⟩)] w fun e w' => e = .returned (.tuple #[.agg #[.int .i64 ((mvG W v x).1).a, .int .i64 ((mvG W v x).1).b, .int .i64 ((mvG W v x).1).c, .int .i64 ((mvG W v x).1).d], .bool (mvG W v x).2]) ∧ Below w.heap.size w w' := by
  have K := hid (add4 x v hx hv)
  have hYl := lt_of hY
  have hpl := lt_of hp
  have X0 := hid (show ((w.alloc (.cells #[.int .i64 x.a, .int .i64 x.b, .int .i64 x.c, .int .i64 x.d] 40)).alloc (.cells #[.int .i64 0, .int .i64 0, .int .i64 0, .int .i64 0] 40)).heap[w.heap.size]? = some (.cells #[.int .i64 x.a, .int .i64 x.b, .int .i64 x.c, .int .i64 x.d] 40 (0, 0)) from heapA (heap_new w _))
  have R0 := hid (show ((w.alloc (.cells #[.int .i64 x.a, .int .i64 x.b, .int .i64 x.c, .int .i64 x.d] 40)).alloc (.cells #[.int .i64 0, .int .i64 0, .int .i64 0, .int .i64 0] 40)).heap[w.heap.size + 1]? = some (.cells #[.int .i64 0, .int .i64 0, .int .i64 0, .int .i64 0] 40 (0, 0)) from by simpa using heap_new (w.alloc (.cells #[.int .i64 x.a, .int .i64 x.b, .int .i64 x.c, .int .i64 x.d] 40)) (.cells #[.int .i64 0, .int .i64 0, .int .i64 0, .int .i64 0] 40))
  have V0 := hid (heapA (o := (.cells #[.int .i64 0, .int .i64 0, .int .i64 0, .int .i64 0] 40)) (heapA (o := .cells #[.int .i64 x.a, .int .i64 x.b, .int .i64 x.c, .int .i64 x.d] 40) h))
  have Y0 := hid (heapA (o := (.cells #[.int .i64 0, .int .i64 0, .int .i64 0, .int .i64 0] 40)) (heapA (o := .cells #[.int .i64 x.a, .int .i64 x.b, .int .i64 x.c, .int .i64 x.d] 40) hY))
  have P0 := hid (heapA (o := (.cells #[.int .i64 0, .int .i64 0, .int .i64 0, .int .i64 0] 40)) (heapA (o := .cells #[.int .i64 x.a, .int .i64 x.b, .int .i64 x.c, .int .i64 x.d] 40) hp))
  have g0 := hid (show Below w.heap.size w ((w.alloc (.cells #[.int .i64 x.a, .int .i64 x.b, .int .i64 x.c, .int .i64 x.d] 40)).alloc (.cells #[.int .i64 0, .int .i64 0, .int .i64 0, .int .i64 0] 40)) from by go_grown)
  obtain ⟨x0, x1, x2, x3⟩ := four X0.out
  obtain ⟨v0, v1, v2, v3⟩ := four V0.out
  obtain ⟨e1, e2, e3, e4⟩ := addV_eq (W := W) hx hv hW
  rw [e1]
  clear h hx hv hY hp e1
  generalize (addV x v).1 = m at *
  have e5 : ((addV x v).2 == 0) = false ∧ (mvG W v x).2 = false ∨ ((addV x v).2 == 0) = true ∧ (mvG W v x).2 = m.leB W := by
    rcases e2 with e2 | e2
    · exact .inl ⟨by rw [e2]; rfl, e3 e2⟩
    · exact .inr ⟨by rw [e2]; rfl, e4 e2⟩
  clear e2 e3 e4
  generalize (addV x v).2 = er at *
  rcases e5 with ⟨e2, e3⟩ | ⟨e2, e3⟩
  · rw [e3]
    clear e3
    go_enter Try.func69, Try.ntmps69
    go_wp2_with fail
    refine (K.out _).mono ?_
    rintro _ w2 ⟨rfl, hb⟩
    have R2 := hid (heapA (o := .cells #[.int .i64 m.a, .int .i64 m.b, .int .i64 m.c, .int .i64 m.d] 40) (keep0 hb R0.out))
    have N2 := hid (heap_new w2 (.cells #[.int .i64 m.a, .int .i64 m.b, .int .i64 m.c, .int .i64 m.d] 40))
    have g2 := hid ((below_step g0.out g0.out.size hb).alloc (by have := g0.out.size; have := hb.size; omega) (.cells #[.int .i64 m.a, .int .i64 m.b, .int .i64 m.c, .int .i64 m.d] 40))
    clear hb
    obtain ⟨m0, m1, m2, m3⟩ := four N2.out
    obtain ⟨l0, l1, l2, l3⟩ := four R2.out
    obtain ⟨f0, f1, f2, f3⟩ := fourF R2.out
    go_wp2_with fail
    go_big_region
    all_goals go_wp2_with fail
    all_goals exact bodyPost_ret (v := .tuple #[.agg #[.int .i64 m.a, .int .i64 m.b, .int .i64 m.c, .int .i64 m.d], .bool false]) (results_row_tmp Try.results69 _ _ (w.heap.size + 1) 40 _ (0, 0) _ _ rfl rfl (heapD (four_set _ _ _ _ R2.out)) Try.underlying40 rfl (by kernel_rfl)) rfl ⟨rfl, dN (four_below _ _ _ _ g2.out (Nat.le_succ _)) 1⟩
  · rw [e3]
    have KF := hid (fits4 m W)
    generalize m.leB W = q at *
    clear e3
    go_enter Try.func69, Try.ntmps69
    go_wp2_with fail
    refine (K.out _).mono ?_
    rintro _ w2 ⟨rfl, hb⟩
    have R2 := hid (heapA (o := .cells #[.int .i64 m.a, .int .i64 m.b, .int .i64 m.c, .int .i64 m.d] 40) (keep0 hb R0.out))
    have Y2 := hid (heapA (o := .cells #[.int .i64 m.a, .int .i64 m.b, .int .i64 m.c, .int .i64 m.d] 40) (keep0 hb Y0.out))
    have P2 := hid (heapA (o := .cells #[.int .i64 m.a, .int .i64 m.b, .int .i64 m.c, .int .i64 m.d] 40) (keep0 hb P0.out))
    have N2 := hid (heap_new w2 (.cells #[.int .i64 m.a, .int .i64 m.b, .int .i64 m.c, .int .i64 m.d] 40))
    have g2 := hid ((below_step g0.out g0.out.size hb).alloc (by have := g0.out.size; have := hb.size; omega) (.cells #[.int .i64 m.a, .int .i64 m.b, .int .i64 m.c, .int .i64 m.d] 40))
    have hbk := hid hb
    clear hb
    obtain ⟨m0, m1, m2, m3⟩ := four N2.out
    obtain ⟨l0, l1, l2, l3⟩ := four R2.out
    obtain ⟨f0, f1, f2, f3⟩ := fourF R2.out
    obtain ⟨c0, c1, c2, c3, c4⟩ := five P2.out
    have y0 := one Y2.out
    have n1 : w2.heap.size ≠ w.heap.size + 1 := by have := lt_of (keep0 hbk.out R0.out); omega
    have n2 : Y ≠ w.heap.size + 1 := by omega
    have n3 : p ≠ w.heap.size + 1 := by omega
    go_wp2_with fail
    go_region_held3 (fun w' => w'.cell? ⟨w2.heap.size, 0, none⟩ = some (.int .i64 m.a) ∧ w'.cell? ⟨w2.heap.size, 1, none⟩ = some (.int .i64 m.b) ∧ w'.cell? ⟨w2.heap.size, 2, none⟩ = some (.int .i64 m.c) ∧ w'.cell? ⟨w2.heap.size, 3, none⟩ = some (.int .i64 m.d) ∧ w'.cell? ⟨Y, 0, none⟩ = some (.pointer (some ⟨p, 0, none⟩)) ∧ w'.cell? ⟨p, 0, none⟩ = some (.int .i64 W.a) ∧ w'.cell? ⟨p, 1, none⟩ = some (.int .i64 W.b) ∧ w'.cell? ⟨p, 2, none⟩ = some (.int .i64 W.c) ∧ w'.cell? ⟨p, 3, none⟩ = some (.int .i64 W.d)) (first | exact ⟨m0, m1, m2, m3, y0, c0, c1, c2, c3⟩ | exact ⟨mm0, mm1, mm2, mm3, yy0, cc0, cc1, cc2, cc3⟩ | exact ⟨(four_cell n1).trans mm0, (four_cell n1).trans mm1, (four_cell n1).trans mm2, (four_cell n1).trans mm3, (four_cell n2).trans yy0, (four_cell n3).trans cc0, (four_cell n3).trans cc1, (four_cell n3).trans cc2, (four_cell n3).trans cc3⟩ | go_keep) (first | (go_at_call 60; (with_reducible refine (KF.out _).mono ?_); rintro _ w5 ⟨rfl, hb⟩; have g5 := hid (below_step g2.out g2.out.size (unD hb)); have R5 := hid (keep0 (unD hb) R2.out); have N5 := hid (keep0 (unD hb) N2.out); obtain ⟨mm0, mm1, mm2, mm3⟩ := four N5.out; have yy0 := one (keep0 (unD hb) Y2.out); obtain ⟨cc0, cc1, cc2, cc3, _⟩ := five (keep0 (unD hb) P2.out); obtain ⟨ll0, ll1, ll2, ll3⟩ := four R5.out; obtain ⟨ff0, ff1, ff2, ff3⟩ := fourF R5.out; clear hb))
    all_goals go_wp2_with fail
    all_goals exact bodyPost_ret (v := .tuple #[.agg #[.int .i64 m.a, .int .i64 m.b, .int .i64 m.c, .int .i64 m.d], .bool q]) (results_row_tmp Try.results69 _ _ (w.heap.size + 1) 40 _ (0, 0) _ _ rfl rfl (four_set _ _ _ _ R5.out) Try.underlying40 rfl (by kernel_rfl)) rfl ⟨rfl, four_below _ _ _ _ g5.out (Nat.le_succ _)⟩
end Go.Proofs.Ythkofnahimlijaa
