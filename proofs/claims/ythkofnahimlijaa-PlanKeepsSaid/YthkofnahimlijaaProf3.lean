/- profile.Free, At, of any profile that stands in memory. Conditions: its steps tell what is free. -/
import Derived.Test.YthkofnahimlijaaJoin
import Derived.IntWalk
namespace Go.Proofs.Ythkofnahimlijaa
open Go Go.RowKit
theorem PV.D {w : World} {p b cap : Nat} {W : V4} {n : Nat} {T : Nat → Int} {V : Nat → V4} (h : PV w p b cap W n T V) : PV w.drew p b cap W n T V := ⟨h.h, h.s.of rfl, h.c, h.n0, h.nl, h.ne⟩
theorem PV.A {w : World} {p b cap : Nat} {W : V4} {n : Nat} {T : Nat → Int} {V : Nat → V4} (h : PV w p b cap W n T V) (o : Obj) : PV (w.alloc o) p b cap W n T V := h.keep (by go_grown)
theorem PV.four {w : World} {p b cap : Nat} {W : V4} {n : Nat} {T : Nat → Int} {V : Nat → V4} (h : PV w p b cap W n T V) {B : Nat} {v0 v1 v2 v3 : Value} (h1 : p ≠ B) (h2 : b ≠ B) : PV ((((w.setCell ⟨B, 0, none⟩ v0).setCell ⟨B, 1, none⟩ v1).setCell ⟨B, 2, none⟩ v2).setCell ⟨B, 3, none⟩ v3) p b cap W n T V :=
  ⟨four_other _ _ _ _ h1 h.h, h.s.of (by rw [heap_setCell_other _ _ _ _ h2, heap_setCell_other _ _ _ _ h2, heap_setCell_other _ _ _ _ h2, heap_setCell_other _ _ _ _ h2]), h.c, h.n0, h.nl, h.ne⟩
theorem Rp.range {n : Nat} {T : Nat → Int} {V : Nat → V4} {e : Int} {f : Int → V4} (h : Rp n T V e f) {a c : Int} (ha : 0 ≤ a) (hac : a < c) (hce : c < e) : ∃ i j, i ≤ j ∧ j < n ∧ (T i ≤ a ∧ (i + 1 < n → a < T (i + 1))) ∧ (T j ≤ c - 1 ∧ (j + 1 < n → c - 1 < T (j + 1))) := by
  obtain ⟨i, i1, i2, i3⟩ := h.anyT ha (by omega)
  obtain ⟨j, j1, j2, j3⟩ := h.anyT (t := c - 1) (by omega) (by omega)
  refine ⟨i, j, ?_, j1, ⟨i2, i3⟩, j2, j3⟩
  rcases Nat.lt_or_ge j i with hl | hl
  · have := j3 (by omega)
    have := h.le (i := j + 1) (j := i) (by omega) i1
    omega
  · exact hl
/-- The less of the whole and of what is free at each tick of some. -/
def MinOf (W : V4) (f : Int → V4) (a c : Int) (m : V4) : Prop := ∀ x : V4, x.le m ↔ (x.le W ∧ ∀ t, 0 ≤ t → t < 1099511627776 → a ≤ t → t < c → x.le (f t))
theorem MinOf.none {W : V4} {f : Int → V4} {a c : Int} (h : min c 1099511627776 ≤ max a 0) : MinOf W f a c W := fun x => ⟨fun hx => ⟨hx, fun t h1 h2 h3 h4 => by omega⟩, fun hx => hx.1⟩
def MinTo (W : V4) (V : Nat → V4) (i k : Nat) (m : V4) : Prop := ∀ x : V4, x.le m ↔ (x.le W ∧ ∀ l, l < k → x.le (V (i + l)))
theorem MinTo.zero (W : V4) (V : Nat → V4) (i : Nat) : MinTo W V i 0 W := fun x => ⟨fun hx => ⟨hx, fun l hl => by omega⟩, fun hx => hx.1⟩
theorem MinTo.step {W : V4} {V : Nat → V4} {i k : Nat} {m : V4} (h : MinTo W V i k m) : MinTo W V i (k + 1) (m.mn (V (i + k))) := fun x => by
  rw [V4.le_mn, h x]
  constructor
  · rintro ⟨⟨h1, h2⟩, h3⟩
    refine ⟨h1, fun l hl => ?_⟩
    rcases Nat.lt_or_ge l k with hk | hk
    · exact h2 l hk
    · obtain rfl : l = k := by omega
      exact h3
  · rintro ⟨h1, h2⟩
    exact ⟨⟨h1, fun l hl => h2 l (by omega)⟩, h2 k (by omega)⟩
theorem MinTo.all {n : Nat} {T : Nat → Int} {V : Nat → V4} {f : Int → V4} {W m : V4} {a c : Int} {i j : Nat} (hR : Rp n T V 1099511627777 f) (hij : i ≤ j) (hj : j < n) (hi1 : T i ≤ max a 0) (hi2 : i + 1 < n → max a 0 < T (i + 1)) (hj1 : T j ≤ min c 1099511627776 - 1)
    (hj2 : j + 1 < n → min c 1099511627776 - 1 < T (j + 1)) (hac : max a 0 < min c 1099511627776) (h : MinTo W V i (j + 1 - i) m) : MinOf W f a c m := fun x => by
  rw [h x]
  constructor
  · rintro ⟨h1, h2⟩
    refine ⟨h1, fun t t0 t1 t2 t3 => ?_⟩
    obtain ⟨l, l1, l2, l3⟩ := hR.anyT t0 (by omega)
    rw [hR.fn l l1 t l2 l3 (by omega)]
    have hil : i ≤ l := by
      rcases Nat.lt_or_ge l i with hl | hl
      · have := l3 (by omega)
        have := hR.le (i := l + 1) (j := i) (by omega) (by omega)
        omega
      · exact hl
    have hlj : l ≤ j := by
      rcases Nat.lt_or_ge j l with hl | hl
      · have := hj2 (by omega)
        have := hR.le (i := j + 1) (j := l) (by omega) l1
        omega
      · exact hl
    have := h2 (l - i) (by omega)
    rwa [show i + (l - i) = l by omega] at this
  · rintro ⟨h1, h2⟩
    refine ⟨h1, fun l hl => ?_⟩
    rcases Nat.eq_zero_or_pos l with h0 | h0
    · subst h0
      rw [Nat.add_zero, ← hR.fn i (by omega) (max a 0) hi1 hi2 (by omega)]
      exact h2 _ (by omega) (by omega) (by omega) (by omega)
    · have g1 := hR.le (i := i + 1) (j := i + l) (by omega) (by omega)
      have g2 := hi2 (by omega)
      have g3 := hR.le (i := i + l) (j := j) (by omega) hj
      rw [← hR.fn (i + l) (by omega) (T (i + l)) (Int.le_refl _) (fun hl2 => hR.up _ hl2) (hR.lt _ (by omega))]
      exact h2 _ (by omega) (by omega) (by omega) (by omega)
def FreePost (w : World) (W : V4) (f : Int → V4) (a c : Int) (e : Ending) (w' : World) : Prop := ∃ m : V4, e = .returned (.agg #[.int .i64 m.a, .int .i64 m.b, .int .i64 m.c, .int .i64 m.d]) ∧ MinOf W f a c m ∧ Below w.heap.size w w'
set_option maxHeartbeats 1000000 in
theorem free_any (p b cap : Nat) (W : V4) (n : Nat) (T : Nat → Int) (V : Nat → V4) (fn : Int → V4) (f t : Int) (w : World) (h : PV w p b cap W n T V) (hR : Rp n T V 1099511627777 fn) :
    Calls Try.prog 61 #[.pointer (some ⟨p, 0, none⟩), .int .i64 f, .int .i64 t] w (FreePost w W fn f t) := by
  have KM : Hid (∀ w1, PV w1 p b cap W n T V → Calls Try.prog 65 #[.pointer (some ⟨p, 0, none⟩)] w1 fun e w' => e = .returned (.bool true) ∧ w1 = w') := hid fun w1 h1 => made_any p b cap W n T V w1 h1
  have hpl := lt_of h.h
  have hbl := h.s.lt
  have R0 := hid (heap_new w (.cells #[.int .i64 0, .int .i64 0, .int .i64 0, .int .i64 0] 40))
  have P0 := hid (h.A (.cells #[.int .i64 0, .int .i64 0, .int .i64 0, .int .i64 0] 40))
  obtain ⟨c0, c1, c2, c3, c4⟩ := five P0.out.h
  by_cases hac : min t 1099511627776 ≤ max f 0
  · have HM := hid (MinOf.none (W := W) (f := fn) hac)
    have hac' : decide (min t 1099511627776 ≤ max f 0) = true := by simpa using hac
    clear h hR hac
    go_enter Try.func61, Try.ntmps61
    go_wp2_with fail
    refine (KM.out _ P0.out).mono ?_
    rintro _ w2 ⟨rfl, rfl⟩
    go_wp2_with fail
    exact bodyPost_ret (v := .agg #[.int .i64 W.a, .int .i64 W.b, .int .i64 W.c, .int .i64 W.d]) (results_cell_row Try.results61 _ _ w.heap.size 40 _ (0, 0) _ rfl (heapA (heap_new w _)) Try.underlying40 rfl (by kernel_rfl)) rfl ⟨W, rfl, HM.out, by go_grown⟩
  · obtain ⟨i, j, hij, hj, ⟨hi1, hi2⟩, hj1, hj2⟩ := hR.range (a := max f 0) (c := min t 1099511627776) (by omega) (by omega) (by omega)
    have KA : Hid (∀ w1, PV w1 p b cap W n T V → Calls Try.prog 66 #[.pointer (some ⟨p, 0, none⟩), .int .i64 (max f 0)] w1 fun e w' => e = .returned (.int .i64 i) ∧ Below w1.heap.size w1 w') := hid fun w1 h1 => place_any p b cap W n T V i _ w1 h1 (fun x y hxy hy => hR.le hxy hy) (by omega) hi1 hi2
    have KC : Hid (∀ w1, PV w1 p b cap W n T V → Calls Try.prog 66 #[.pointer (some ⟨p, 0, none⟩), .int .i64 (min t 1099511627776 - 1)] w1 fun e w' => e = .returned (.int .i64 j) ∧ Below w1.heap.size w1 w') := hid fun w1 h1 => place_any p b cap W n T V j _ w1 h1 (fun x y hxy hy => hR.le hxy hy) hj hj1 hj2
    have HF := hid (fun m => MinTo.all (W := W) (m := m) hR hij hj hi1 hi2 hj1 hj2 (by omega))
    have hnc := h.c
    have hnl := h.nl
    obtain ⟨A, hA⟩ : ∃ A, max f 0 = A := ⟨_, rfl⟩
    obtain ⟨C, hC⟩ : ∃ C, min t 1099511627776 = C := ⟨_, rfl⟩
    rw [hA] at KA
    rw [hC] at KC
    have hA0 : 0 ≤ A := by omega
    have hAC : A < C := by omega
    have hC1 : C ≤ 1099511627776 := by omega
    have hji : (i : Int) ≤ (j : Int) + 1 := by omega
    have hjc : (j : Int) + 1 ≤ (cap : Int) := by omega
    have hic : i < cap := by omega
    have hw1 : IntKind.i64.wrap (C - 1) = C - 1 := IntWalk.i64_in _ (by omega)
    have hw2 : IntKind.i64.wrap ((j : Int) + 1) = (j : Int) + 1 := IntWalk.i64_in _ (by omega)
    clear hi1 hi2 hj1 hj2 hac
    have P1 := hid (P0.out.A (.cells #[.int .i64 W.a, .int .i64 W.b, .int .i64 W.c, .int .i64 W.d] 40))
    have R1 := hid (show ((w.alloc (.cells #[.int .i64 0, .int .i64 0, .int .i64 0, .int .i64 0] 40)).alloc (.cells #[.int .i64 W.a, .int .i64 W.b, .int .i64 W.c, .int .i64 W.d] 40)).heap[w.heap.size]? = some (.cells #[.int .i64 0, .int .i64 0, .int .i64 0, .int .i64 0] 40 (0, 0)) from heapA R0.out)
    have L1 := hid (show ((w.alloc (.cells #[.int .i64 0, .int .i64 0, .int .i64 0, .int .i64 0] 40)).alloc (.cells #[.int .i64 W.a, .int .i64 W.b, .int .i64 W.c, .int .i64 W.d] 40)).heap[w.heap.size + 1]? = some (.cells #[.int .i64 W.a, .int .i64 W.b, .int .i64 W.c, .int .i64 W.d] 40 (0, 0)) from by simpa using heap_new (w.alloc (.cells #[.int .i64 0, .int .i64 0, .int .i64 0, .int .i64 0] 40)) (.cells #[.int .i64 W.a, .int .i64 W.b, .int .i64 W.c, .int .i64 W.d] 40))
    have d4 := (five P1.out.h).2.2.2.2
    have g1 := hid (show Below w.heap.size w ((w.alloc (.cells #[.int .i64 0, .int .i64 0, .int .i64 0, .int .i64 0] 40)).alloc (.cells #[.int .i64 W.a, .int .i64 W.b, .int .i64 W.c, .int .i64 W.d] 40)) from by go_grown)
    go_enter Try.func61, Try.ntmps61
    go_wp2_with fail
    refine (KM.out _ P0.out).mono ?_
    rintro _ w2 ⟨rfl, rfl⟩
    go_wp2_with fail
    go_region_held3 (fun w' => w'.cell? ⟨p, 4, none⟩ = some (.slice (some ⟨b, 0, none⟩) n cap)) (first | exact d4 | exact e4 | exact f4 | go_keep) (first | (go_at_call 66; (with_reducible refine (KA.out _ P1.out.D).mono ?_); rintro _ w3 ⟨rfl, hb⟩; have g3 := hid (below_step g1.out g1.out.size (unD hb)); have P3 := hid (P1.out.keep (unD hb)); have R3 := hid (keep0 (unD hb) R1.out); have L3 := hid (keep0 (unD hb) L1.out); have e4 := (five P3.out.h).2.2.2.2; clear hb) | (go_at_call 66; (with_reducible refine (KC.out _ P3.out).mono ?_); rintro _ w4 ⟨rfl, hb⟩; have g4 := hid (below_step g3.out g3.out.size hb); have P4 := hid (P3.out.keep hb); have R4 := hid (keep0 hb R3.out); have L4 := hid (keep0 hb L3.out); have f4 := (five P4.out.h).2.2.2.2; clear hb))
    go_wp2_with fail
    obtain ⟨L, hL⟩ : ∃ L, j + 1 - i = L := ⟨_, rfl⟩
    rw [hL] at HF
    simp only [hL]
    have hLn : i + L ≤ n := by omega
    clear hL hA hC hw1 hw2 hji hjc hij hj KA KC KM d4 e4 f4 P1 P3 R0 R1 R3 L1 L3 g1 g3 c0 c1 c2 c3 c4 P0 h hR hA0 hAC hC1
    go_loopw [40] (fun x wr => ∃ (k : Nat) (m : V4), k ≤ L ∧ x = .int .i64 k ∧ MinTo W V i k m ∧ Below w.heap.size w wr ∧ PV wr p b cap W n T V ∧ wr.heap[w.heap.size]? = some (.cells #[.int .i64 0, .int .i64 0, .int .i64 0, .int .i64 0] 40 (0, 0)) ∧ wr.heap[w.heap.size + 1]? = some (.cells #[.int .i64 m.a, .int .i64 m.b, .int .i64 m.c, .int .i64 m.d] 40 (0, 0))) (fun x _ => L - (intOf x).toNat)
    case atStart => exact ⟨0, W, Nat.zero_le _, rfl, MinTo.zero _ _ _, g4.out, P4.out, R4.out, L4.out⟩
    case round =>
      clear g4 P4 R4 L4
      obtain ⟨k, m, hk, rfl, hm, hg, hp, hRr, hLr⟩ := hrel
      have HM := hid hm
      have HG := hid hg
      have HP := hid hp
      have HR := hid hRr
      have HL := hid hLr
      clear hm hg hp hRr hLr
      by_cases hlt : k < L
      · have hlt' : (k : Int) < (L : Int) := by omega
        obtain ⟨y0, y1, y2, y3, y4⟩ := HP.out.s.cells (i := i + k) (by omega)
        rw [Nat.add_mul] at y0 y1 y2 y3 y4
        have KL := hid (least4 m (V (i + k)))
        have HM2 := hid (HM.out.step)
        generalize V (i + k) = v at *
        generalize T (i + k) = tt at *
        generalize hm2 : m.mn v = m2 at *
        clear hm2
        have HS := hid (heap_new wr (.cells #[.int .i64 tt, .int .i64 v.a, .int .i64 v.b, .int .i64 v.c, .int .i64 v.d] 105))
        have LA := hid (heapA (o := .cells #[.int .i64 tt, .int .i64 v.a, .int .i64 v.b, .int .i64 v.c, .int .i64 v.d] 105) HL.out)
        obtain ⟨s0, s1, s2, s3, s4⟩ := five HS.out
        obtain ⟨l0, l1, l2, l3⟩ := four LA.out
        go_wp2_with fail
        refine (KL.out _).mono ?_
        rintro _ w5 ⟨rfl, hb⟩
        have P5 := hid ((HP.out.A (.cells #[.int .i64 tt, .int .i64 v.a, .int .i64 v.b, .int .i64 v.c, .int .i64 v.d] 105)).keep hb)
        have g5 := hid (below_step (HG.out.alloc (by have := HG.out.size; omega) (.cells #[.int .i64 tt, .int .i64 v.a, .int .i64 v.b, .int .i64 v.c, .int .i64 v.d] 105)) (by have := HG.out.size; simp; omega) hb)
        have R5 := hid (keep0 hb (heapA (o := .cells #[.int .i64 tt, .int .i64 v.a, .int .i64 v.b, .int .i64 v.c, .int .i64 v.d] 105) HR.out))
        have L5 := hid (keep0 hb LA.out)
        clear hb l0 l1 l2 l3 s0 s1 s2 s3 s4 y0 y1 y2 y3 y4
        obtain ⟨l0, l1, l2, l3⟩ := four L5.out
        obtain ⟨f0, f1, f2, f3⟩ := fourF L5.out
        go_wp2_with fail
        go_roundw
        case rel => exact ⟨k + 1, m2, by omega, by go_num, HM2.out, four_below _ _ _ _ g5.out (by omega), P5.out.four (by omega) (by omega), four_other _ _ _ _ (by omega) R5.out, four_set _ _ _ _ L5.out⟩
        case measure => simp [intOf]; omega
      · obtain rfl : k = L := by omega
        have HF2 := hid (HF.out m HM.out)
        obtain ⟨l0, l1, l2, l3⟩ := four HL.out
        obtain ⟨r0, r1, r2, r3⟩ := four HR.out
        obtain ⟨f0, f1, f2, f3⟩ := fourF HR.out
        go_wp2_with fail
        exact bodyPost_ret (v := .agg #[.int .i64 m.a, .int .i64 m.b, .int .i64 m.c, .int .i64 m.d]) (results_cell_row Try.results61 _ _ w.heap.size 40 _ (0, 0) _ rfl (four_set _ _ _ _ HR.out) Try.underlying40 rfl (by kernel_rfl)) rfl ⟨m, rfl, HF2.out, four_below _ _ _ _ HG.out (Nat.le_refl _)⟩
end Go.Proofs.Ythkofnahimlijaa
