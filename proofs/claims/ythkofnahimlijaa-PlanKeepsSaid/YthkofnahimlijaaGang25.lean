/- What is found sooner: the mathematics of the laws on Find. Conditions: none. -/
import Derived.Test.YthkofnahimlijaaGang20
namespace Go.Proofs.Ythkofnahimlijaa
open Go Go.RowKit
theorem filter_mono {α : Type} {P Q : α → Bool} : ∀ l : List α, (∀ i, i ∈ l → P i = true → Q i = true) → (l.filter P).length ≤ (l.filter Q).length
  | [], _ => Nat.le_refl _
  | i :: r, h => by
    have ih := filter_mono r fun j hj => h j (List.mem_cons_of_mem _ hj)
    cases hp : P i with
    | false =>
      rw [List.filter_cons_of_neg (by simp [hp])]
      refine Nat.le_trans ih ?_
      rw [List.filter_cons]
      split
      · simp
      · exact Nat.le_refl _
    | true =>
      rw [List.filter_cons_of_pos hp, List.filter_cons_of_pos (h i (by simp) hp)]
      simpa using ih
theorem openL_mono {n : Nat} {fs : Nat → Int → V4} {xs : List Int} {a c a' c' : Int} {v v' : V4} (h : ∀ i, opB (fs i) v a c = true → opB (fs i) v' a' c' = true) : (openL n fs xs a c v).length ≤ (openL n fs xs a' c' v').length := by
  unfold openL
  exact filter_mono _ fun i _ hi => h i hi
theorem op_short {f : Int → V4} {v : V4} {a c c' : Int} (h : opB f v a c = true) (hc : c' ≤ c) : opB f v a c' = true := (opB_iff _ _ _ _).2 fun t t1 t2 => (opB_iff _ _ _ _).1 h t t1 (by omega)
theorem op_less {f : Int → V4} {v v' : V4} {a c : Int} (h : opB f v a c = true) (hv : v'.le v) : opB f v' a c = true := (opB_iff _ _ _ _).2 fun t t1 t2 => V4.le_trans hv ((opB_iff _ _ _ _).1 h t t1 t2)
theorem find_first {n : Nat} {fs : Nat → Int → V4} {xs : List Int} {v : V4} {a k : Int} {m : Nat} {t : Int} (h1 : max a 0 ≤ t) (h2 : t ≤ 1099511627776 - k) (h3 : m ≤ (openL n fs xs t (t + k) v).length) : ∃ u, u ≤ t ∧ FindAt n fs xs v a k m u := by
  obtain ⟨u, u1, u2, u3, u4⟩ := first_of (a := max a 0) (P := fun u => m ≤ (openL n fs xs u (u + k) v).length) (t - max a 0).toNat t (by omega) h3
  exact ⟨u, u2, u1, by omega, u3, fun s s1 s2 => Nat.lt_of_not_le (u4 s s1 s2)⟩
/-- What is found where there is something at a tick. -/
theorem findR_le {w w' : World} {n : Nat} {fs : Nat → Int → V4} {xs : List Int} {v : V4} {a k m t : Int} {e : Ending} (h : FindR w n fs xs v a k m e w') (hm : 1 ≤ m) (hk : 1 ≤ k) (hv : v.okB = true) (h1 : max a 0 ≤ t) (h2 : t ≤ 1099511627776 - k) (h3 : m.toNat ≤ (openL n fs xs t (t + k) v).length) :
    ∃ u v', e = .returned (.tuple #[.int .i64 u, v', .bool true]) ∧ u ≤ t ∧ FindAt n fs xs v a k m.toNat u ∧ w'.ownsRow w.heap.size 3 1 v' m.toNat (nums ((openL n fs xs u (u + k) v).take m.toNat)) ∧ Below w.heap.size w w' := by
  obtain ⟨u, u1, u2⟩ := find_first h1 h2 h3
  obtain ⟨hb, ⟨t', v', rfl, ⟨_, _, _, h5⟩, ho⟩ | ⟨_, h5⟩⟩ := h
  · obtain rfl := h5.uniq u2
    exact ⟨t', v', rfl, u1, u2, ho, hb⟩
  · exact absurd ⟨hm, hk, hv, u2⟩ (h5 u)
end Go.Proofs.Ythkofnahimlijaa
