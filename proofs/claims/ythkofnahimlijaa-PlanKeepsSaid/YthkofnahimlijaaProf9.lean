/- Steps held against one another; the document's Span and Same; a profile that is none. Conditions: rows that stand in memory. -/
import Derived.Test.YthkofnahimlijaaProf8
namespace Go.Proofs.Ythkofnahimlijaa
open Go Go.RowKit
theorem eq_vecD (d : Nat) (x y : V4) (w : World) : (Op.equalIn (d + 1 + 1) 40 (.agg #[.int .i64 x.a, .int .i64 x.b, .int .i64 x.c, .int .i64 x.d]) (.agg #[.int .i64 y.a, .int .i64 y.b, .int .i64 y.c, .int .i64 y.d])).run Try.prog w = .ok (x.eqB y) w := by
  obtain ⟨a0, a1, a2, a3⟩ := x
  obtain ⟨b0, b1, b2, b3⟩ := y
  have hc : Try.prog.cellsOf 3 = 1 := by kernel_rfl
  obtain ⟨i, hi⟩ := Option.isSome_iff_exists.1 (show (Try.prog.info? 3).isSome = true by kernel_rfl)
  rw [run_equalIn_array w (d + 1) _ _ Try.underlying40 hi, hc]
  have he : Try.prog.plainKey 3 = true := by kernel_rfl
  have hp : ∀ (c0 c1 c2 c3 : Value), (part 3 #[c0, c1, c2, c3] (0 * 1)).run Try.prog w = .ok c0 w ∧ (part 3 #[c0, c1, c2, c3] (1 * 1)).run Try.prog w = .ok c1 w ∧ (part 3 #[c0, c1, c2, c3] (2 * 1)).run Try.prog w = .ok c2 w ∧ (part 3 #[c0, c1, c2, c3] (3 * 1)).run Try.prog w = .ok c3 w := fun c0 c1 c2 c3 =>
    ⟨run_part_plain w he rfl, run_part_plain w he rfl, run_part_plain w he rfl, run_part_plain w he rfl⟩
  have hq : ∀ a b : Int, (Op.equalIn (d + 1) 3 (.int .i64 a) (.int .i64 b)).run Try.prog w = .ok (a == b) w := fun a b => run_equalIn_int w d 3 .i64 .i64 a b Try.underlying3
  simp only [show List.range 4 = [0, 1, 2, 3] from rfl, Op.eqItems, Sem.run_bind, (hp _ _ _ _).1, (hp _ _ _ _).2.1, (hp _ _ _ _).2.2.1, (hp _ _ _ _).2.2.2, Result.andThen_ok, hq, Sem.run_ite, Sem.run_pure, V4.eqB]
  generalize (a0 == b0) = x0
  generalize (a1 == b1) = x1
  generalize (a2 == b2) = x2
  generalize (a3 == b3) = x3
  cases x0 <;> cases x1 <;> cases x2 <;> cases x3 <;> rfl
theorem part_step (t : Value) (a0 a1 a2 a3 : Value) (w : World) : (part 3 #[t, a0, a1, a2, a3] 0).run Try.prog w = .ok t w ∧ (part 40 #[t, a0, a1, a2, a3] 1).run Try.prog w = .ok (.agg #[a0, a1, a2, a3]) w := by
  refine ⟨run_part_plain w (by kernel_rfl) rfl, ?_⟩
  have h1 : (isAgg 40).run Try.prog w = .ok true w := Try.isAgg40 w
  have h2 : (sizeOf 40).run Try.prog w = .ok 4 w := Try.sizeOf40 w
  simp only [part, Sem.run_bind, h1, Result.andThen_ok, if_true, h2, Sem.run_pure]
  rfl
theorem eq_step (t u : Int) (x y : V4) (w : World) : (Op.equalIn 10000 105 (.agg #[.int .i64 t, .int .i64 x.a, .int .i64 x.b, .int .i64 x.c, .int .i64 x.d]) (.agg #[.int .i64 u, .int .i64 y.a, .int .i64 y.b, .int .i64 y.c, .int .i64 y.d])).run Try.prog w = .ok (t == u && x.eqB y) w := by
  rw [show (10000 : Nat) = 9999 + 1 from rfl, run_equalIn_struct w 9999 105 _ _ (by kernel_rfl) (by kernel_rfl)]
  have hf : (Try.prog.fieldsOf 105).toList.map (fun f => (f.name == "_", f.type, f.offset)) = [(false, 3, 0), (false, 40, 1)] := by kernel_rfl
  have hq : (Op.equalIn 9999 3 (.int .i64 t) (.int .i64 u)).run Try.prog w = .ok (t == u) w := run_equalIn_int w 9998 3 .i64 .i64 t u Try.underlying3
  have hv : (Op.equalIn 9999 40 (.agg #[.int .i64 x.a, .int .i64 x.b, .int .i64 x.c, .int .i64 x.d]) (.agg #[.int .i64 y.a, .int .i64 y.b, .int .i64 y.c, .int .i64 y.d])).run Try.prog w = .ok (x.eqB y) w := eq_vecD 9997 x y w
  generalize (Try.prog.fieldsOf 105).toList = l at *
  rcases l with _ | ⟨f0, _ | ⟨f1, _ | ⟨f2, l⟩⟩⟩
  · simp at hf
  · simp at hf
  · simp only [List.map_cons, List.map_nil, List.cons.injEq, Prod.mk.injEq, and_true, beq_eq_false_iff_ne] at hf
    obtain ⟨⟨h1, h3, h5⟩, h2, h4, h6⟩ := hf
    simp only [Op.eqFields, h1, h2, h3, h4, h5, h6, Sem.run_bind, (part_step _ _ _ _ _ w).1, (part_step _ _ _ _ _ w).2, Result.andThen_ok, hq, hv, Sem.run_ite, Sem.run_pure, ne_eq, not_false_eq_true, if_true]
    cases t == u <;> cases x.eqB y <;> rfl
  · simp at hf
def spanF (a c : Int) (v : V4) : Bool := spanB a c && v.okB
theorem refspan_any (a c : Int) (v : V4) (w : World) : Calls Try.prog 51 #[.int .i64 a, .int .i64 c, .agg #[.int .i64 v.a, .int .i64 v.b, .int .i64 v.c, .int .i64 v.d]] w fun e w' => e = .returned (.bool (spanF a c v)) ∧ Below w.heap.size w w' := by
  have X0 := hid (heap_new w (.cells #[.int .i64 v.a, .int .i64 v.b, .int .i64 v.c, .int .i64 v.d] 40))
  have g0 := hid (show Below w.heap.size w (w.alloc (.cells #[.int .i64 v.a, .int .i64 v.b, .int .i64 v.c, .int .i64 v.d] 40)) from by go_grown)
  obtain ⟨x0, x1, x2, x3⟩ := four X0.out
  have KR := hid (rright4 v)
  have hF := hid (show spanF a c v = (decide (0 ≤ a ∧ a < c ∧ c ≤ 1099511627776) && v.okB) from rfl)
  cases hv : v.okB
  all_goals
    rw [hv] at KR hF
    clear hv
    go_enter Try.func51, Try.ntmps51
    go_wp2_with (go_at_call 37; (with_reducible refine (KR.out _).mono ?_); rintro _ w2 ⟨rfl, hb⟩; have g2 := hid (below_step g0.out g0.out.size hb); clear hb)
    all_goals go_returns
    all_goals exact ⟨ret_bool (by rw [hF.out, Bool.eq_iff_iff]; simp; try omega), g2.out⟩
theorem free_nil (a c : Int) (w : World) : Calls Try.prog 61 #[.pointer none, .int .i64 a, .int .i64 c] w fun e w' => e = .returned (.agg #[.int .i64 0, .int .i64 0, .int .i64 0, .int .i64 0]) ∧ Below w.heap.size w w' := by
  have KM := hid made_nil
  have R0 := hid (heap_new w (.cells #[.int .i64 0, .int .i64 0, .int .i64 0, .int .i64 0] 40))
  have g0 := hid (show Below w.heap.size w (w.alloc (.cells #[.int .i64 0, .int .i64 0, .int .i64 0, .int .i64 0] 40)) from by go_grown)
  obtain ⟨l0, l1, l2, l3⟩ := four R0.out
  obtain ⟨f0, f1, f2, f3⟩ := fourF R0.out
  go_enter Try.func61, Try.ntmps61
  go_wp2_with (go_at_call 65; (with_reducible refine (KM.out _).mono ?_); rintro _ w2 ⟨rfl, rfl⟩)
  exact bodyPost_ret (v := .agg #[.int .i64 0, .int .i64 0, .int .i64 0, .int .i64 0]) (results_cell_row Try.results61 _ _ w.heap.size 40 _ (0, 0) _ rfl R0.out Try.underlying40 rfl (by kernel_rfl)) rfl ⟨rfl, g0.out⟩
theorem at_nil (t : Int) (w : World) (ht : -9223372036854775808 ≤ t) : Calls Try.prog 81 #[.pointer none, .int .i64 t] w fun e w' => e = .returned (.agg #[.int .i64 0, .int .i64 0, .int .i64 0, .int .i64 0]) ∧ Below w.heap.size w w' := by
  have K := hid (free_nil t (min t 1099511627776 + 1))
  have R0 := hid (heap_new w (.cells #[.int .i64 0, .int .i64 0, .int .i64 0, .int .i64 0] 40))
  have g0 := hid (show Below w.heap.size w (w.alloc (.cells #[.int .i64 0, .int .i64 0, .int .i64 0, .int .i64 0] 40)) from by go_grown)
  have b1 : -9223372036854775808 ≤ min t 1099511627776 := by omega
  have b2 : min t 1099511627776 ≤ 1099511627776 := by omega
  go_enter Try.func81, Try.ntmps81
  go_wp2_with fail
  refine (K.out _).mono ?_
  rintro _ w2 ⟨rfl, hb⟩
  have R2 := hid (keep0 hb R0.out)
  have g2 := hid (below_step g0.out g0.out.size hb)
  clear hb
  obtain ⟨l0, l1, l2, l3⟩ := four R2.out
  obtain ⟨f0, f1, f2, f3⟩ := fourF R2.out
  go_wp2_with fail
  exact bodyPost_ret (v := .agg #[.int .i64 0, .int .i64 0, .int .i64 0, .int .i64 0]) (results_cell_row Try.results81 _ _ w.heap.size 40 _ (0, 0) _ rfl (four_set _ _ _ _ R2.out) Try.underlying40 rfl (by kernel_rfl)) rfl ⟨rfl, four_below _ _ _ _ g2.out (Nat.le_refl _)⟩
/-- Queries of a profile. -/
theorem free_pr (p : Nat) (W : V4) (f : Int → V4) (a c : Int) (w : World) (h : Pr w p W f) : Calls Try.prog 61 #[.pointer (some ⟨p, 0, none⟩), .int .i64 a, .int .i64 c] w (FreePost w W f a c) := by
  obtain ⟨b, cap, n, T, V, h1, h2, _⟩ := h
  exact free_any p b cap W n T V f a c w h1 h2
theorem earl_pr (p : Nat) (W : V4) (f : Int → V4) (a k : Int) (v : V4) (w : World) (h : Pr w p W f) (hv : v.okB = true) (hk1 : 1 ≤ k) (hk2 : k ≤ 1099511627776) (ha : a ≤ 9223372036854775807) : Calls Try.prog 40 #[.pointer (some ⟨p, 0, none⟩), .int .i64 a, .int .i64 k, .agg #[.int .i64 v.a, .int .i64 v.b, .int .i64 v.c, .int .i64 v.d]] w (EarlPost w f v (max a 0) k) := by
  obtain ⟨b, cap, n, T, V, h1, h2, _⟩ := h
  exact earliest_any p b cap W n T V f a k v w h1 h2 hv hk1 hk2 ha
theorem earl_pr_bad (p : Nat) (W : V4) (f : Int → V4) (a k : Int) (v : V4) (w : World) (h : Pr w p W f) (hb : k < 1 ∨ 1099511627776 < k ∨ v.okB = false) : Calls Try.prog 40 #[.pointer (some ⟨p, 0, none⟩), .int .i64 a, .int .i64 k, .agg #[.int .i64 v.a, .int .i64 v.b, .int .i64 v.c, .int .i64 v.d]] w fun e w' => e = .returned (.tuple #[.int .i64 0, .bool false]) ∧ Below w.heap.size w w' := by
  obtain ⟨b, cap, n, T, V, h1, _⟩ := h
  exact earliest_bad p b cap W n T V a k v w h1 hb
def NewPr (w : World) (W : V4) (e : Ending) (w' : World) : Prop := ∃ p, e = .returned (.pointer (some ⟨p, 0, none⟩)) ∧ Pr w' p W (fun _ => W) ∧ w.heap.size ≤ p ∧ Below w.heap.size w w'
theorem new_pr (W : V4) (hW : W.okB = true) (w : World) : Calls Try.prog 31 #[.agg #[.int .i64 W.a, .int .i64 W.b, .int .i64 W.c, .int .i64 W.d]] w (NewPr w W) := by
  refine (new_ok W hW w).mono ?_
  rintro e w' ⟨p, b, e1, e2, e3, e4, e5⟩
  have hk := (V4.okB_iff W).1 hW
  refine ⟨p, e1, ⟨b, 1, 1, _, _, e2, ⟨by omega, fun _ => by omega, fun _ => rfl, fun i hi => by omega, fun i hi => by omega, fun i hi => by omega, fun i hi t t1 t2 t3 => rfl⟩, fun _ => V4.le_refl _, fun _ _ => rfl, fun _ => hk, hk⟩, e3, e5⟩
end Go.Proofs.Ythkofnahimlijaa
