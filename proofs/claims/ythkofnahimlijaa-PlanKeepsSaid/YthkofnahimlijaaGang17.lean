/- gang's Find as a value: how the tick of a rank goes with what is open. Conditions: none. -/
import Derived.Test.YthkofnahimlijaaGang16
namespace Go.Proofs.Ythkofnahimlijaa
open Go Go.RowKit
theorem cnt_le_first {α : Type} {P : α → Bool} {f : α → Option Int} {Q : Int → Bool} : ∀ l : List α, (∀ i, i ∈ l → P i = true → ∃ e, f i = some e ∧ Q e = true) → (l.filter P).length ≤ ((l.filterMap f).filter Q).length
  | [], _ => Nat.le_refl _
  | i :: r, h => by
    have ih := cnt_le_first r fun j hj => h j (List.mem_cons_of_mem _ hj)
    cases hp : P i with
    | false =>
      rw [List.filter_cons_of_neg (by simp [hp])]
      cases hf : f i with
      | none => rw [List.filterMap_cons_none hf]; exact ih
      | some e =>
        rw [List.filterMap_cons_some hf]
        refine Nat.le_trans ih ?_
        rw [List.filter_cons]
        split
        · simp
        · exact Nat.le_refl _
    | true =>
      obtain ⟨e, he, hq⟩ := h i (by simp) hp
      rw [List.filter_cons_of_pos hp, List.filterMap_cons_some he, List.filter_cons_of_pos hq]
      simpa using ih
theorem first_le_cnt {α : Type} {P : α → Bool} {f : α → Option Int} {Q : Int → Bool} : ∀ l : List α, (∀ i, i ∈ l → ∀ e, f i = some e → Q e = true → P i = true) → ((l.filterMap f).filter Q).length ≤ (l.filter P).length
  | [], _ => Nat.le_refl _
  | i :: r, h => by
    have ih := first_le_cnt r fun j hj => h j (List.mem_cons_of_mem _ hj)
    have mono : (r.filter P).length ≤ ((i :: r).filter P).length := by
      rw [List.filter_cons]
      split
      · simp
      · exact Nat.le_refl _
    cases hf : f i with
    | none => rw [List.filterMap_cons_none hf]; exact Nat.le_trans ih mono
    | some e =>
      rw [List.filterMap_cons_some hf]
      cases hq : Q e with
      | false => rw [List.filter_cons_of_neg (by simp [hq])]; exact Nat.le_trans ih mono
      | true =>
        rw [List.filter_cons_of_pos hq, List.filter_cons_of_pos (h i (by simp) e hf hq)]
        simpa using ih
theorem srt_pair (l : List Int) : (srt l).Pairwise (· ≤ ·) := by
  have h := List.pairwise_mergeSort (le := fun x y : Int => decide (x ≤ y)) (fun a b c h1 h2 => by simp at *; omega) (fun a b => by simp; omega) l
  exact h.imp fun h => by simpa using h
theorem srt_cnt (l : List Int) (Q : Int → Bool) : ((srt l).filter Q).length = (l.filter Q).length := by
  unfold srt
  exact ((List.mergeSort_perm l _).filter Q).length_eq
theorem rank_lt {l : List Int} {r : Nat} {t : Int} (h : (srt l)[r]? = some t) : (l.filter fun x => decide (x < t)).length ≤ r := by
  rw [← srt_cnt]
  have hs := srt_pair l
  have e := List.take_append_drop r (srt l)
  rw [← e, List.filter_append, List.length_append]
  have h1 : ((srt l).drop r).filter (fun x => decide (x < t)) = [] := by
    rw [List.filter_eq_nil_iff]
    intro x hx
    obtain ⟨j, hj⟩ := List.getElem?_of_mem hx
    rw [List.getElem?_drop] at hj
    have k1 := List.getElem?_eq_some_iff.1 h
    have k2 := List.getElem?_eq_some_iff.1 hj
    rcases Nat.eq_zero_or_pos j with rfl | hj0
    · have := k2.2
      have := k1.2
      simp only [Nat.add_zero] at *
      simp
      omega
    · have := List.pairwise_iff_getElem.1 hs r (r + j) k1.1 k2.1 (by omega)
      rw [k1.2, k2.2] at this
      simp
      omega
  rw [h1]
  have := List.length_filter_le (fun x => decide (x < t)) ((srt l).take r)
  rw [List.length_take] at this
  simp
  omega
theorem rank_le {l : List Int} {r : Nat} {t : Int} (h : (srt l)[r]? = some t) : r + 1 ≤ (l.filter fun x => decide (x ≤ t)).length := by
  rw [← srt_cnt]
  have hs := srt_pair l
  have k1 := List.getElem?_eq_some_iff.1 h
  have e := List.take_append_drop (r + 1) (srt l)
  rw [← e, List.filter_append, List.length_append]
  have h1 : ((srt l).take (r + 1)).filter (fun x => decide (x ≤ t)) = (srt l).take (r + 1) := by
    rw [List.filter_eq_self]
    intro x hx
    obtain ⟨j, hj⟩ := List.getElem?_of_mem hx
    rw [List.getElem?_take] at hj
    split at hj
    · next hjr =>
      have k2 := List.getElem?_eq_some_iff.1 hj
      rcases Nat.lt_or_ge j r with hl | hl
      · have := List.pairwise_iff_getElem.1 hs j r k2.1 k1.1 hl
        rw [k1.2, k2.2] at this
        simpa using this
      · obtain rfl : j = r := by omega
        rw [h] at hj
        cases hj
        simp
    · cases hj
  rw [h1, List.length_take]
  have := k1.1
  omega
theorem fit_op {f : Int → V4} {v : V4} {t k : Int} : Fit f v t k ↔ opB f v t (t + k) = true := by
  rw [opB_iff]
  exact Iff.rfl
theorem first_of {P : Int → Prop} {a : Int} : ∀ (d : Nat) (u : Int), u = a + d → P u → ∃ t, a ≤ t ∧ t ≤ u ∧ P t ∧ ∀ s, a ≤ s → s < t → ¬ P s := by
  intro d
  induction d using Nat.strongRecOn with
  | ind d ih =>
    intro u hu hp
    by_cases h : ∃ s, a ≤ s ∧ s < u ∧ P s
    · obtain ⟨s, s1, s2, s3⟩ := h
      obtain ⟨t, t1, t2, t3⟩ := ih (s - a).toNat (by omega) s (by omega) s3
      exact ⟨t, t1, by omega, t3⟩
    · exact ⟨u, by omega, Int.le_refl _, hp, fun s s1 s2 s3 => h ⟨s, s1, s2, s3⟩⟩
theorem eOf_of_fit {f : Int → V4} {v : V4} {a k u : Int} (ha : 0 ≤ a) (hu : a ≤ u) (huk : u ≤ 1099511627776 - k) (h : Fit f v u k) : ∃ e, eOf f v a k = some e ∧ e ≤ u := by
  obtain ⟨t, t1, t2, t3, t4⟩ := first_of (a := a) (P := fun u => Fit f v u k) (u - a).toNat u (by omega) h
  have hm : max a 0 = a := by omega
  exact ⟨t, eOf_some.2 ⟨by omega, by omega, t3, fun s s1 s2 => t4 s (by omega) s2⟩, t2⟩
/-- How many of some nodes are open at a tick. -/
noncomputable def opN (fs : Nat → Int → V4) (l : List Nat) (v : V4) (u k : Int) : Nat := (l.filter fun i => opB (fs i) v u (u + k)).length
theorem nx_none {fs : Nat → Int → V4} {v : V4} {a k : Int} {l : List Nat} {m : Nat} (ha : 0 ≤ a) (h : nxT fs v a k l m = none) (hm : 1 ≤ m) : ∀ u, a ≤ u → u ≤ 1099511627776 - k → opN fs l v u k < m := by
  intro u u1 u2
  have hf : (firsts fs v a k l).length < m := by
    unfold nxT at h
    split at h
    · next hl =>
      have := List.getElem?_eq_none_iff.1 h
      rw [srt_len] at this
      omega
    · omega
  refine Nat.lt_of_le_of_lt ?_ hf
  have h1 := cnt_le_first (P := fun i => opB (fs i) v u (u + k)) (f := fun i => eOf (fs i) v a k) (Q := fun _ => true) l fun i _ hp => by
    obtain ⟨e, he, _⟩ := eOf_of_fit ha u1 u2 (fit_op.2 hp)
    exact ⟨e, he, rfl⟩
  unfold opN firsts
  refine Nat.le_trans h1 ?_
  exact List.length_filter_le _ _
theorem nx_some {fs : Nat → Int → V4} {v : V4} {a k t : Int} {l : List Nat} {m : Nat} (ha : 0 ≤ a) (h : nxT fs v a k l m = some t) (hm : 1 ≤ m) : a ≤ t ∧ t ≤ 1099511627776 - k ∧ (∀ u, a ≤ u → u < t → opN fs l v u k < m) ∧ (t = a → m ≤ opN fs l v t k) := by
  have hr : (srt (firsts fs v a k l))[m - 1]? = some t := by
    unfold nxT at h
    split at h
    · exact h
    · cases h
  have hmem : t ∈ firsts fs v a k l := by
    have := List.mem_of_getElem? hr
    unfold srt at this
    exact (List.mergeSort_perm _ _).mem_iff.1 this
  obtain ⟨i, hi, he⟩ := List.mem_filterMap.1 hmem
  obtain ⟨e1, e2, e3, _⟩ := eOf_some.1 he
  refine ⟨by omega, e2, fun u u1 u2 => ?_, fun hta => ?_⟩
  · have h1 := cnt_le_first (P := fun i => opB (fs i) v u (u + k)) (f := fun i => eOf (fs i) v a k) (Q := fun x => decide (x < t)) l fun i _ hp => by
      obtain ⟨e, he, hle⟩ := eOf_of_fit ha u1 (by omega) (fit_op.2 hp)
      exact ⟨e, he, by simp; omega⟩
    have h2 := rank_lt hr
    unfold firsts at h2
    unfold opN
    omega
  · have h1 := first_le_cnt (P := fun i => opB (fs i) v t (t + k)) (f := fun i => eOf (fs i) v a k) (Q := fun x => decide (x ≤ t)) l fun i _ e he hq => by
      obtain ⟨f1, f2, f3, _⟩ := eOf_some.1 he
      have : e = t := by simp at hq; omega
      subst this
      exact fit_op.1 f3
    have h2 := rank_le hr
    unfold firsts at h2
    unfold opN
    omega
theorem cntL_mem {n k i : Nat} {xs : List Int} : i ∈ cntL n xs k ↔ i < k ∧ i < n ∧ (i : Int) ∈ xs := by
  unfold cntL
  rw [List.mem_filter, List.mem_range]
  unfold cntS
  simp
/-- What counts of what counts is all of it. -/
theorem cntL_cnt (n : Nat) (xs : List Int) : cntL n ((cntL n xs 16).map fun i : Nat => (i : Int)) 16 = cntL n xs 16 := by
  conv => lhs; unfold cntL
  conv => rhs; unfold cntL
  refine List.filter_congr fun i hi => ?_
  rw [List.mem_range] at hi
  unfold cntS
  rw [Bool.eq_iff_iff]
  simp only [Bool.and_eq_true, decide_eq_true_eq, List.contains_iff_mem, List.mem_map]
  constructor
  · rintro ⟨h1, j, hj, e⟩
    obtain rfl : j = i := by omega
    exact ⟨h1, (cntL_mem.1 hj).2.2⟩
  · rintro ⟨h1, h2⟩
    exact ⟨h1, i, cntL_mem.2 ⟨hi, h1, h2⟩, rfl⟩
theorem openL_cnt (n : Nat) (fs : Nat → Int → V4) (xs : List Int) (a c : Int) (v : V4) : openL n fs ((cntL n xs 16).map fun i : Nat => (i : Int)) a c v = openL n fs xs a c v := by
  unfold openL
  rw [cntL_cnt]
theorem opN_open (n : Nat) (fs : Nat → Int → V4) (xs : List Int) (v : V4) (u k : Int) : opN fs (cntL n xs 16) v u k = (openL n fs xs u (u + k) v).length := rfl
/-- The first tick from a on at which m of some places are open for k ticks. -/
def FindAt (n : Nat) (fs : Nat → Int → V4) (xs : List Int) (v : V4) (a k : Int) (m : Nat) (t : Int) : Prop := max a 0 ≤ t ∧ t ≤ 1099511627776 - k ∧ m ≤ (openL n fs xs t (t + k) v).length ∧ ∀ u, max a 0 ≤ u → u < t → (openL n fs xs u (u + k) v).length < m
theorem FindAt.uniq {n : Nat} {fs : Nat → Int → V4} {xs : List Int} {v : V4} {a k : Int} {m : Nat} {t u : Int} (h : FindAt n fs xs v a k m t) (h' : FindAt n fs xs v a k m u) : t = u := by
  obtain ⟨a1, a2, a3, a4⟩ := h
  obtain ⟨b1, b2, b3, b4⟩ := h'
  rcases Int.lt_trichotomy t u with hl | hl | hl
  · have := b4 t a1 hl; omega
  · exact hl
  · have := a4 u b1 hl; omega
end Go.Proofs.Ythkofnahimlijaa
