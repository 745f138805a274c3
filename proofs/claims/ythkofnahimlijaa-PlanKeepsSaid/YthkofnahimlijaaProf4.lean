/- profile.At, Steps, New, of any profile that stands in memory. Conditions: its steps tell what is free. -/
import Derived.Test.YthkofnahimlijaaProf3
namespace Go.Proofs.Ythkofnahimlijaa
open Go Go.RowKit
theorem V4.anti {x y : V4} (h : x.le y) (k : y.le x) : x = y := by
  obtain ⟨a, b, c, d⟩ := x
  obtain ⟨a', b', c', d'⟩ := y
  obtain ⟨h1, h2, h3, h4⟩ := h
  obtain ⟨k1, k2, k3, k4⟩ := k
  simp only at h1 h2 h3 h4 k1 k2 k3 k4
  simp only [V4.mk.injEq]
  omega
theorem MinOf.at {W m : V4} {f : Int → V4} {t : Int} (h : MinOf W f t (min t 1099511627776 + 1) m) (hW : ∀ t, (f t).le W) (ho : ∀ t, (t < 0 ∨ 1099511627776 ≤ t) → f t = W) : m = f t := by
  by_cases ht : t < 0 ∨ 1099511627776 ≤ t
  · rw [ho t ht]
    refine V4.anti ((h m).1 (V4.le_refl _)).1 ((h W).2 ⟨V4.le_refl _, fun u h1 h2 h3 h4 => by omega⟩)
  · refine V4.anti (((h m).1 (V4.le_refl _)).2 t (by omega) (by omega) (by omega) (by omega)) ((h (f t)).2 ⟨hW t, fun u h1 h2 h3 h4 => ?_⟩)
    obtain rfl : u = t := by omega
    exact V4.le_refl _
theorem at_any (p b cap : Nat) (W : V4) (n : Nat) (T : Nat → Int) (V : Nat → V4) (fn : Int → V4) (t : Int) (w : World) (h : PV w p b cap W n T V) (hR : Rp n T V 1099511627777 fn) (hW : ∀ t, (fn t).le W) (ho : ∀ t, (t < 0 ∨ 1099511627776 ≤ t) → fn t = W) (ht : -9223372036854775808 ≤ t) :
    Calls Try.prog 81 #[.pointer (some ⟨p, 0, none⟩), .int .i64 t] w fun e w' => e = .returned (.agg #[.int .i64 (fn t).a, .int .i64 (fn t).b, .int .i64 (fn t).c, .int .i64 (fn t).d]) ∧ Below w.heap.size w w' := by
  have K : Hid (∀ w1, PV w1 p b cap W n T V → Calls Try.prog 61 #[.pointer (some ⟨p, 0, none⟩), .int .i64 t, .int .i64 (min t 1099511627776 + 1)] w1 fun e w' => e = .returned (.agg #[.int .i64 (fn t).a, .int .i64 (fn t).b, .int .i64 (fn t).c, .int .i64 (fn t).d]) ∧ Below w1.heap.size w1 w') := hid fun w1 h1 => by
    refine (free_any p b cap W n T V fn t (min t 1099511627776 + 1) w1 h1 hR).mono ?_
    rintro e w' ⟨m, rfl, hm, hb⟩
    rw [hm.at hW ho]
    exact ⟨rfl, hb⟩
  have P0 := hid (h.A (.cells #[.int .i64 0, .int .i64 0, .int .i64 0, .int .i64 0] 40))
  have R0 := hid (heap_new w (.cells #[.int .i64 0, .int .i64 0, .int .i64 0, .int .i64 0] 40))
  have g0 := hid (show Below w.heap.size w (w.alloc (.cells #[.int .i64 0, .int .i64 0, .int .i64 0, .int .i64 0] 40)) from by go_grown)
  have b1 : -9223372036854775808 ≤ min t 1099511627776 := by omega
  have b2 : min t 1099511627776 ≤ 1099511627776 := by omega
  generalize fn t = m at *
  clear h hR hW ho
  go_enter Try.func81, Try.ntmps81
  go_wp2_with fail
  refine (K.out _ P0.out).mono ?_
  rintro _ w2 ⟨rfl, hb⟩
  have R2 := hid (keep0 hb R0.out)
  have g2 := hid (below_step g0.out g0.out.size hb)
  clear hb
  obtain ⟨l0, l1, l2, l3⟩ := four R2.out
  obtain ⟨f0, f1, f2, f3⟩ := fourF R2.out
  go_wp2_with fail
  exact bodyPost_ret (v := .agg #[.int .i64 m.a, .int .i64 m.b, .int .i64 m.c, .int .i64 m.d]) (results_cell_row Try.results81 _ _ w.heap.size 40 _ (0, 0) _ rfl (four_set _ _ _ _ R2.out) Try.underlying40 rfl (by kernel_rfl)) rfl ⟨rfl, four_below _ _ _ _ g2.out (Nat.le_refl _)⟩
end Go.Proofs.Ythkofnahimlijaa
