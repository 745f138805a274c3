/- profile.At, Steps, New, of any profile that stands in memory. Conditions: its steps tell what is free. -/
import Derived.Test.YtadnbhjbaicjeaaProf3
namespace Go.Proofs.Ytadnbhjbaicjeaa
open Go Go.RowKit
theorem V4.anti {x y : V4} (h : x.le y) (k : y.le x) : x = y := by
  obtain ⟨a, b, c, d⟩ := x
  obtain ⟨a', b', c', d'⟩ := y
  obtain ⟨h1, h2, h3, h4⟩ := h
  obtain ⟨k1, k2, k3, k4⟩ := k
  simp only at h1 h2 h3 h4 k1 k2 k3 k4
  simp only [V4.mk.injEq]
  omega
theorem MinOf.at {W m : V4} {f : Int → V4} {t : Int} (h : MinOf W f t (min t 1099511627776 + 1) m) (hW : ∀ t, (f t).le W) (ho : ∀ t, (t < 0 ∨ 1099511627776 ≤ t) → f t = W) : m = f t := by
  by_cases ht : t < 0 ∨ 1099511627776 ≤ t
  · rw [ho t ht]
    refine V4.anti ((h m).1 (V4.le_refl _)).1 ((h W).2 ⟨V4.le_refl _, fun u h1 h2 h3 h4 => by omega⟩)
  · refine V4.anti (((h m).1 (V4.le_refl _)).2 t (by omega) (by omega) (by omega) (by omega)) ((h (f t)).2 ⟨hW t, fun u h1 h2 h3 h4 => ?_⟩)
    obtain rfl : u = t := by omega
    exact V4.le_refl _
theorem at_any (p b cap : Nat) (W : V4) (n : Nat) (T : Nat → Int) (V : Nat → V4) (fn : Int → V4) (t : Int) (w : World) (h : PV w p b cap W n T V) (hR : Rp n T V 1099511627777 fn) (hW : ∀ t, (fn t).le W) (ho : ∀ t, (t < 0 ∨ 1099511627776 ≤ t) → fn t = W) (ht : -9223372036854775808 ≤ t) :
    Calls Try.prog 18 #[.pointer (some ⟨p, 0, none⟩), .int .i64 t] w fun e w' => e = .returned (.agg #[.int .i64 (fn t).a, .int .i64 (fn t).b, .int .i64 (fn t).c, .int .i64 (fn t).d]) ∧ Below w.heap.size w w' := by
  have K : Hid (∀ w1, PV w1 p b cap W n T V → Calls Try.prog 10 #[.pointer (some ⟨p, 0, none⟩), .int .i64 t, .int .i64 (min t 1099511627776 + 1)] w1 fun e w' => e = .returned (.agg #[.int .i64 (fn t).a, .int .i64 (fn t).b, .int .i64 (fn t).c, .int .i64 (fn t).d]) ∧ Below w1.heap.size w1 w') := hid fun w1 h1 => by
    refine (free_any p b cap W n T V fn t (min t 1099511627776 + 1) w1 h1 hR).mono ?_
    rintro e w' ⟨m, rfl, hm, hb⟩
    rw [hm.at hW ho]
    exact ⟨rfl, hb⟩
  have P0 := hid (h.A (.cells #[.int .i64 0, .int .i64 0, .int .i64 0, .int .i64 0] 23))
  have R0 := hid (heap_new w (.cells #[.int .i64 0, .int .i64 0, .int .i64 0, .int .i64 0] 23))
  have g0 := hid (show Below w.heap.size w (w.alloc (.cells #[.int .i64 0, .int .i64 0, .int .i64 0, .int .i64 0] 23)) from by go_grown)
  have b1 : -9223372036854775808 ≤ min t 1099511627776 := by omega
  have b2 : min t 1099511627776 ≤ 1099511627776 := by omega
  generalize fn t = m at *
  clear h hR hW ho
  go_enter Try.func18, Try.ntmps18
  go_wp2_with fail
  refine (K.out _ P0.out).mono ?_
  rintro _ w2 ⟨rfl, hb⟩
  have R2 := hid (keep0 hb R0.out)
  have g2 := hid (below_step g0.out g0.out.size hb)
  clear hb
  obtain ⟨l0, l1, l2, l3⟩ := four R2.out
  obtain ⟨f0, f1, f2, f3⟩ := fourF R2.out
  go_wp2_with fail
  exact bodyPost_ret (v := .agg #[.int .i64 m.a, .int .i64 m.b, .int .i64 m.c, .int .i64 m.d]) (results_cell_row Try.results18 _ _ w.heap.size 23 _ (0, 0) _ rfl (four_set _ _ _ _ R2.out) Try.underlying23 rfl (by kernel_rfl)) rfl ⟨rfl, four_below _ _ _ _ g2.out (Nat.le_refl _)⟩
def StepsPost (w : World) (n : Nat) (T : Nat → Int) (V : Nat → V4) (e : Ending) (w' : World) : Prop := ∃ b cap, e = .returned (.slice (some ⟨b, 0, none⟩) n cap) ∧ Sl w' b n T V ∧ n ≤ cap ∧ w.heap.size ≤ b ∧ Below w.heap.size w w'
theorem steps_any (p b cap : Nat) (W : V4) (n : Nat) (T : Nat → Int) (V : Nat → V4) (w : World) (h : PV w p b cap W n T V) :
    Calls Try.prog 9 #[.pointer (some ⟨p, 0, none⟩)] w (StepsPost w n T V) := by
  have KM := hid (made_any p b cap W n T V w h)
  have hcells : ∀ j u, (srow n T V)[j]? = some u → w.cell? ((⟨b, 0, none⟩ : Addr).add j) = some u := by
    intro j u hj
    obtain ⟨cs, fr, c1, c2⟩ := h.s
    have hlt : j < n * 5 := by
      have := (List.getElem?_eq_some_iff.1 hj).1
      rwa [srow_len] at this
    have hadd : (⟨b, 0, none⟩ : Addr).add j = ⟨b, j, none⟩ := by unfold Addr.add; split <;> simp_all
    rw [hadd, ← hj, ← c2, List.getElem?_take_of_lt hlt]
    simp [World.cell?, c1]
  obtain ⟨i0, hi, hz0, hz1, hz2⟩ := step_info
  obtain ⟨_, _, _, _, c4⟩ := five h.h
  have hn0 := h.n0
  have hnl := h.nl
  have HC := hid hcells
  clear h hcells
  go_enter Try.func9, Try.ntmps9
  go_wp2_with fail
  refine KM.out.mono ?_
  rintro _ w2 ⟨rfl, rfl⟩
  go_wp2_with (at_builtin; refine wpList_append_own _ rfl _ _ 30 rfl w.heap.size 43 i0 _ 5 40 Try.underlying30 hi hz0 hz1 hz2 rfl (by decide) _ 0 [] rfl (World.ownsRow_nil _ _ _ _) ⟨b, 0, none⟩ n cap (srow n T V) rfl (srow_len _ _ _) HC.out srow_oneCell (by unfold maxLen; omega) (by omega) (Nat.le_refl _) ?_; rintro v' w' ho hg hv; have HO := hid ho; have HG := hid hg; clear ho hg hv)
  go_returns
  obtain ⟨_, ⟨_, h0⟩ | ⟨g, cap', cur, rfl, hB, hh, h3, h4, h5, h6⟩⟩ := HO.out
  · omega
  · simp only [Nat.zero_add, List.nil_append] at h3 h6
    exact ⟨g, cap', by simp, ⟨cur, _, hh, h6⟩, h3, hB, gb_none HG.out⟩
end Go.Proofs.Ytadnbhjbaicjeaa
