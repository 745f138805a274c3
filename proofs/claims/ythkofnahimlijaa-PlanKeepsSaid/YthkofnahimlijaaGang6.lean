/- gang's Open and the predicate that it hands on. Conditions: the pool and the places stand in memory. -/
import Derived.Test.YthkofnahimlijaaGang5
namespace Go.Proofs.Ythkofnahimlijaa
open Go Go.RowKit
open Classical in
/-- Is an amount free at all ticks from one to below another one? -/
noncomputable def opB (f : Int → V4) (v : V4) (a c : Int) : Bool := decide (∀ t, a ≤ t → t < c → v.le (f t))
theorem opB_iff (f : Int → V4) (v : V4) (a c : Int) : opB f v a c = true ↔ ∀ t, a ≤ t → t < c → v.le (f t) := by
  unfold opB
  exact @decide_eq_true_iff _ (Classical.propDecidable _)
theorem op_min {W m v : V4} {f : Int → V4} {a c : Int} (h : MinOf W f a c m) (hW : ∀ t, (f t).le W) (ha : 0 ≤ a) (hac : a < c) (hc : c ≤ 1099511627776) : v.leB m = opB f v a c := by
  rw [Bool.eq_iff_iff, V4.leB_iff, h, opB_iff]
  constructor
  · rintro ⟨_, h2⟩ t t1 t2
    exact h2 t (by omega) (by omega) t1 t2
  · intro h2
    exact ⟨V4.le_trans (h2 a (Int.le_refl _) hac) (hW a), fun t _ _ t3 t4 => h2 t t3 t4⟩
theorem Pr.free {w : World} {p : Nat} {W : V4} {f : Int → V4} (h : Pr w p W f) : ∀ t, (f t).le W := by
  obtain ⟨b, cap, n, T, V, _, _, h3, _⟩ := h
  exact h3
theorem free_op (p : Nat) (W : V4) (f : Int → V4) (a c : Int) (v : V4) (w : World) (h : Pr w p W f) (ha : 0 ≤ a) (hac : a < c) (hc : c ≤ 1099511627776) : Calls Try.prog 61 #[.pointer (some ⟨p, 0, none⟩), .int .i64 a, .int .i64 c] w fun e w' => (∃ m : V4, e = .returned (.agg #[.int .i64 m.a, .int .i64 m.b, .int .i64 m.c, .int .i64 m.d]) ∧ v.leB m = opB f v a c) ∧ Below w.heap.size w w' := by
  refine (free_pr p W f a c w h).mono ?_
  rintro e w' ⟨m, rfl, hm, hb⟩
  exact ⟨⟨m, rfl, op_min hm h.free ha hac hc⟩, hb⟩
theorem fits_is {x y : V4} {b : Bool} (h : x.leB y = b) (w : World) : Calls Try.prog 60 #[.agg #[.int .i64 x.a, .int .i64 x.b, .int .i64 x.c, .int .i64 x.d], .agg #[.int .i64 y.a, .int .i64 y.b, .int .i64 y.c, .int .i64 y.d]] w fun e w' => e = .returned (.bool b) ∧ Below w.heap.size w w' := by
  rw [← h]
  exact fits4 x y w
theorem PL.D {w : World} {q : Nat} {sv : Value} {n : Nat} {ps : Nat → Nat} {Ws : Nat → V4} {fs : Nat → Int → V4} (h : PL w q sv n ps Ws fs) : PL w.drew q sv n ps Ws fs := h.keep (Below.drew (Below.refl _ _))
set_option maxHeartbeats 1000000 in
theorem open1_any (q : Nat) (sv : Value) (n : Nat) (ps : Nat → Nat) (Ws : Nat → V4) (fs : Nat → Int → V4) (bv bq bf bt i : Nat) (v : V4) (a c : Int) (w : World) (h : PL w q sv n ps Ws fs) (hi : i < n) (hv : w.heap[bv]? = some (.cells #[.int .i64 v.a, .int .i64 v.b, .int .i64 v.c, .int .i64 v.d] 40 (0, 0))) (hq : w.heap[bq]? = some (.cells #[.pointer (some ⟨q, 0, none⟩)] 49 (0, 0)))
    (hf : w.heap[bf]? = some (.cells #[.int .i64 a] 3 (0, 0))) (ht : w.heap[bt]? = some (.cells #[.int .i64 c] 3 (0, 0))) (ha : 0 ≤ a) (hac : a < c) (hc : c ≤ 1099511627776) :
    Calls Try.prog 59 #[.int .i64 (i : Nat), .pointer (some ⟨bv, 0, none⟩), .pointer (some ⟨bq, 0, none⟩), .pointer (some ⟨bf, 0, none⟩), .pointer (some ⟨bt, 0, none⟩)] w fun e w' => e = .returned (.bool (!(opB (fs i) v a c))) ∧ Below w.heap.size w w' := by
  obtain ⟨g, cap, rfl, hnc, hgl, hcell⟩ := h.row (by omega)
  have hp := h.p i hi
  have KF := hid (fun w1 (hb : Below w.heap.size w w1) => free_op (ps i) (Ws i) (fs i) a c v w1 (hp.keep hb) ha hac hc)
  have n0 := hcell i hi
  have q0 := h.cell
  have V0 := hid hv
  have Q0 := hid hq
  have F0 := hid hf
  have T0 := hid ht
  have C0 := hid (fun (w1 : World) (hb : Below w.heap.size w w1) => (show w1.cell? ⟨g, i, none⟩ = some (.pointer (some ⟨ps i, 0, none⟩)) ∧ w1.cell? ⟨q, 0, none⟩ = some (.slice (some ⟨g, 0, none⟩) n cap) from ⟨(hb.cell (p := ⟨g, i, none⟩) hgl).trans n0, (h.keep hb).cell⟩))
  obtain ⟨v0, v1, v2, v3⟩ := four hv
  have b0 := one hq
  have f0 := one hf
  have t0 := one ht
  have hi' : (i : Int) < (n : Int) := by omega
  have hm16 := h.m
  clear h hp hcell hv hq hf ht
  generalize opB (fs i) v a c = ob at *
  go_enter Try.func59, Try.ntmps59
  go_wp2_with fail
  go_region_held3 (fun w' => (w'.cell? ⟨bv, 0, none⟩ = some (.int .i64 v.a) ∧ w'.cell? ⟨bv, 1, none⟩ = some (.int .i64 v.b) ∧ w'.cell? ⟨bv, 2, none⟩ = some (.int .i64 v.c) ∧ w'.cell? ⟨bv, 3, none⟩ = some (.int .i64 v.d)) ∧ w'.cell? ⟨bq, 0, none⟩ = some (.pointer (some ⟨q, 0, none⟩)) ∧ w'.cell? ⟨q, 0, none⟩ = some (.slice (some ⟨g, 0, none⟩) n cap) ∧ w'.cell? ⟨g, i, none⟩ = some (.pointer (some ⟨ps i, 0, none⟩)) ∧ w'.cell? ⟨bf, 0, none⟩ = some (.int .i64 a) ∧ w'.cell? ⟨bt, 0, none⟩ = some (.int .i64 c))
    (first | exact ⟨⟨v0, v1, v2, v3⟩, b0, q0, n0, f0, t0⟩ | exact ⟨⟨va0, va1, va2, va3⟩, ba0, qa0, na0, fa0, ta0⟩ | exact ⟨⟨vb0, vb1, vb2, vb3⟩, bb0, qb0, nb0, fb0, tb0⟩ | go_keep)
    (first
    | (go_at_call 61; (with_reducible refine (KF.out _ (Below.drew (Below.refl _ _))).mono ?_); rintro _ w2 ⟨⟨m, rfl, hm⟩, hb⟩; have KT := hid (fits_is hm); have g2 := hid (unD hb); have V2 := hid (keep0 (unD hb) V0.out); have Q2 := hid (keep0 (unD hb) Q0.out); have F2 := hid (keep0 (unD hb) F0.out); have T2 := hid (keep0 (unD hb) T0.out); obtain ⟨va0, va1, va2, va3⟩ := four V2.out; have ba0 := one Q2.out; have fa0 := one F2.out; have ta0 := one T2.out; obtain ⟨na0, qa0⟩ := C0.out _ g2.out; clear hb hm)
    | (go_at_call 60; (with_reducible refine (KT.out _).mono ?_); rintro _ w3 ⟨rfl, hb⟩; have g3 := hid (below_step g2.out g2.out.size hb); obtain ⟨vb0, vb1, vb2, vb3⟩ := four (keep0 hb V2.out); have bb0 := one (keep0 hb Q2.out); have fb0 := one (keep0 hb F2.out); have tb0 := one (keep0 hb T2.out); obtain ⟨nb0, qb0⟩ := C0.out _ g3.out; clear hb))
  all_goals go_wp2_with fail
  all_goals go_returns
  all_goals exact ⟨rfl, g3.out⟩
end Go.Proofs.Ythkofnahimlijaa
