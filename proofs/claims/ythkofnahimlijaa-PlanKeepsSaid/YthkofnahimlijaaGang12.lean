/- A profile's earliest tick as a value of its own. Conditions: the profile stands in memory. -/
import Derived.Test.YthkofnahimlijaaGang11
namespace Go.Proofs.Ythkofnahimlijaa
open Go Go.RowKit
/-- The first tick from a on at which an amount is free for k ticks. -/
def FirstAt (f : Int → V4) (v : V4) (a k t : Int) : Prop := max a 0 ≤ t ∧ t ≤ 1099511627776 - k ∧ Fit f v t k ∧ ∀ u, max a 0 ≤ u → u < t → ¬ Fit f v u k
theorem FirstAt.uniq {f : Int → V4} {v : V4} {a k t u : Int} (h : FirstAt f v a k t) (h' : FirstAt f v a k u) : t = u := by
  rcases Int.lt_trichotomy t u with hl | hl | hl
  · exact absurd h.2.2.1 (h'.2.2.2 t h.1 hl)
  · exact hl
  · exact absurd h'.2.2.1 (h.2.2.2 u h'.1 hl)
open Classical in
noncomputable def eOf (f : Int → V4) (v : V4) (a k : Int) : Option Int := if h : ∃ t, FirstAt f v a k t then some h.choose else none
theorem eOf_some {f : Int → V4} {v : V4} {a k t : Int} : eOf f v a k = some t ↔ FirstAt f v a k t := by
  unfold eOf
  constructor
  · intro h
    split at h
    · next hx =>
      have := hx.choose_spec
      cases h
      exact this
    · cases h
  · intro h
    have hx : ∃ t, FirstAt f v a k t := ⟨t, h⟩
    rw [dif_pos hx]
    rw [hx.choose_spec.uniq h]
theorem eOf_none {f : Int → V4} {v : V4} {a k : Int} (h : ∀ u, max a 0 ≤ u → u ≤ 1099511627776 - k → ¬ Fit f v u k) : eOf f v a k = none := by
  cases he : eOf f v a k with
  | none => rfl
  | some t =>
    obtain ⟨h1, h2, h3, _⟩ := eOf_some.1 he
    exact absurd h3 (h t h1 h2)
/-- What Earliest answers, as a pair. -/
def eT (o : Option Int) : Int := o.getD 0
theorem earl_eof (p : Nat) (W : V4) (f : Int → V4) (a k : Int) (v : V4) (w : World) (h : Pr w p W f) (hv : v.okB = true) (hk1 : 1 ≤ k) (hk2 : k ≤ 1099511627776) (ha : a ≤ 9223372036854775807) : Calls Try.prog 40 #[.pointer (some ⟨p, 0, none⟩), .int .i64 a, .int .i64 k, .agg #[.int .i64 v.a, .int .i64 v.b, .int .i64 v.c, .int .i64 v.d]] w fun e w' => e = .returned (.tuple #[.int .i64 (eT (eOf f v a k)), .bool (eOf f v a k).isSome]) ∧ Below w.heap.size w w' := by
  refine (earl_pr p W f a k v w h hv hk1 hk2 ha).mono ?_
  rintro e w' ⟨hb, ⟨t, h1, h2, h3, h4, h5⟩ | ⟨h1, h2⟩⟩
  · rw [(eOf_some (f := f) (v := v) (a := a) (k := k) (t := t)).2 ⟨h2, h3, h4, h5⟩]
    exact ⟨h1, hb⟩
  · rw [eOf_none h2]
    exact ⟨h1, hb⟩
theorem earl_big (p : Nat) (W : V4) (f : Int → V4) (a k : Int) (v : V4) (w : World) (h : Pr w p W f) (hk : 1099511627776 < k) : Calls Try.prog 40 #[.pointer (some ⟨p, 0, none⟩), .int .i64 a, .int .i64 k, .agg #[.int .i64 v.a, .int .i64 v.b, .int .i64 v.c, .int .i64 v.d]] w fun e w' => e = .returned (.tuple #[.int .i64 (eT (eOf f v a k)), .bool (eOf f v a k).isSome]) ∧ Below w.heap.size w w' := by
  refine (earl_pr_bad p W f a k v w h (.inr (.inl hk))).mono ?_
  rintro e w' ⟨h1, hb⟩
  rw [eOf_none fun u u1 u2 => by omega]
  exact ⟨h1, hb⟩
/-- With any number of ticks from 1 on. -/
theorem earl_all (p : Nat) (W : V4) (f : Int → V4) (a k : Int) (v : V4) (w : World) (h : Pr w p W f) (hv : v.okB = true) (hk1 : 1 ≤ k) (ha : a ≤ 9223372036854775807) : Calls Try.prog 40 #[.pointer (some ⟨p, 0, none⟩), .int .i64 a, .int .i64 k, .agg #[.int .i64 v.a, .int .i64 v.b, .int .i64 v.c, .int .i64 v.d]] w fun e w' => e = .returned (.tuple #[.int .i64 (eT (eOf f v a k)), .bool (eOf f v a k).isSome]) ∧ Below w.heap.size w w' := by
  by_cases hk : k ≤ 1099511627776
  · exact earl_eof p W f a k v w h hv hk1 hk ha
  · exact earl_big p W f a k v w h (by omega)
/-- The first ticks of some nodes, as far as there are any. -/
noncomputable def firsts (fs : Nat → Int → V4) (v : V4) (a k : Int) (l : List Nat) : List Int := l.filterMap fun i => eOf (fs i) v a k
theorem firsts_snoc (fs : Nat → Int → V4) (v : V4) (a k : Int) (l : List Nat) (i : Nat) : firsts fs v a k (l ++ [i]) = firsts fs v a k l ++ (match eOf (fs i) v a k with | some t => [t] | none => []) := by
  unfold firsts
  rw [List.filterMap_append]
  congr 1
  cases h : eOf (fs i) v a k <;> simp [h]
theorem firsts_le (fs : Nat → Int → V4) (v : V4) (a k : Int) (l : List Nat) : (firsts fs v a k l).length ≤ l.length := by
  unfold firsts
  exact List.length_filterMap_le _ _
end Go.Proofs.Ythkofnahimlijaa
