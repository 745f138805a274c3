/- gang's Give, the mathematics of its way there and back. Conditions: none. -/
import Derived.Test.YthkofnahimlijaaGang12
namespace Go.Proofs.Ythkofnahimlijaa
open Go Go.RowKit
theorem V4.ford (x y : V4) : (x.add y).sub y = x := by
  cases x
  cases y
  simp [V4.add, V4.sub]
theorem chF_ford {f : Int → V4} {a c : Int} {v : V4} : chF (chF f a c fun x => x.add v) a c (fun x => x.sub v) = f := by
  funext t
  by_cases h : a ≤ t ∧ t < c
  · rw [chF_in h.1 h.2, chF_in h.1 h.2, V4.ford]
  · rw [chF_out (by omega), chF_out (by omega)]
/-- What is free behind the first k of a gang were given, and of these the first j taken again. -/
def fsG (fs : Nat → Int → V4) (xs : List Int) (a c : Int) (v : V4) (k j : Nat) : Nat → Int → V4 := fun i => if ((xs.take k).drop j).contains (i : Int) = true then chF (fs i) a c (fun x => x.add v) else fs i
theorem fsG_same (fs : Nat → Int → V4) (xs : List Int) (a c : Int) (v : V4) (k : Nat) : fsG fs xs a c v k k = fs := by
  funext i
  unfold fsG
  rw [List.drop_eq_nil_of_le (by rw [List.length_take]; omega)]
  simp
theorem Gang.inj {n : Nat} {xs : List Int} (h : Gang n xs) {i j : Nat} {x : Int} (hi : xs[i]? = some x) (hj : xs[j]? = some x) : i = j := by
  have hs := h.sorted
  obtain ⟨i1, i2⟩ := List.getElem?_eq_some_iff.1 hi
  obtain ⟨j1, j2⟩ := List.getElem?_eq_some_iff.1 hj
  have hp := List.pairwise_iff_getElem.1 hs
  rcases Nat.lt_trichotomy i j with hl | hl | hl
  · have := hp i j i1 j1 hl
    rw [i2, j2] at this
    omega
  · exact hl
  · have := hp j i j1 i1 hl
    rw [i2, j2] at this
    omega
theorem mem_dt (xs : List Int) (k j : Nat) (x : Int) : ((xs.take k).drop j).contains x = true ↔ ∃ i, j ≤ i ∧ i < k ∧ xs[i]? = some x := by
  rw [List.contains_iff_mem, List.mem_iff_getElem?]
  constructor
  · rintro ⟨i, hi⟩
    rw [List.getElem?_drop, List.getElem?_take] at hi
    split at hi
    · next h => exact ⟨j + i, by omega, h, hi⟩
    · cases hi
  · rintro ⟨i, h1, h2, h3⟩
    refine ⟨i - j, ?_⟩
    rw [List.getElem?_drop, show j + (i - j) = i from by omega, List.getElem?_take, if_pos h2]
    exact h3
theorem fsG_give {n : Nat} {fs : Nat → Int → V4} {xs : List Int} {a c : Int} {v : V4} {k d : Nat} (h : Gang n xs) (hd : xs[k]? = some (d : Int)) : fsG fs xs a c v k 0 d = fs d ∧ setF (fsG fs xs a c v k 0) d (chF (fs d) a c fun x => x.add v) = fsG fs xs a c v (k + 1) 0 := by
  refine ⟨?_, ?_⟩
  · unfold fsG
    rw [if_neg]
    rw [mem_dt]
    rintro ⟨i, _, h2, h3⟩
    have := h.inj h3 hd
    omega
  · funext i
    unfold setF fsG
    by_cases hi : i = d
    · subst hi
      rw [if_pos rfl, if_pos ((mem_dt _ _ _ _).2 ⟨k, by omega, by omega, hd⟩)]
    · rw [if_neg hi]
      have he : ((xs.take (k + 1)).drop 0).contains (i : Int) = ((xs.take k).drop 0).contains (i : Int) := by
        rw [Bool.eq_iff_iff, mem_dt, mem_dt]
        constructor
        · rintro ⟨m, h1, h2, h3⟩
          refine ⟨m, h1, ?_, h3⟩
          rcases Nat.lt_or_ge m k with hm | hm
          · exact hm
          · obtain rfl : m = k := by omega
            rw [hd] at h3
            cases h3
            exact absurd rfl hi
        · rintro ⟨m, h1, h2, h3⟩
          exact ⟨m, h1, by omega, h3⟩
      rw [he]
theorem fsG_back {n : Nat} {fs : Nat → Int → V4} {xs : List Int} {a c : Int} {v : V4} {k j d : Nat} (h : Gang n xs) (hd : xs[j]? = some (d : Int)) (hj : j < k) : fsG fs xs a c v k j d = chF (fs d) a c (fun x => x.add v) ∧ setF (fsG fs xs a c v k j) d (chF (chF (fs d) a c fun x => x.add v) a c fun x => x.sub v) = fsG fs xs a c v k (j + 1) := by
  refine ⟨?_, ?_⟩
  · unfold fsG
    rw [if_pos ((mem_dt _ _ _ _).2 ⟨j, by omega, hj, hd⟩)]
  · rw [chF_ford]
    funext i
    unfold setF fsG
    by_cases hi : i = d
    · subst hi
      rw [if_pos rfl, if_neg]
      rw [mem_dt]
      rintro ⟨m, h1, h2, h3⟩
      have := h.inj h3 hd
      omega
    · rw [if_neg hi]
      have he : ((xs.take k).drop (j + 1)).contains (i : Int) = ((xs.take k).drop j).contains (i : Int) := by
        rw [Bool.eq_iff_iff, mem_dt, mem_dt]
        constructor
        · rintro ⟨m, h1, h2, h3⟩
          exact ⟨m, by omega, h2, h3⟩
        · rintro ⟨m, h1, h2, h3⟩
          refine ⟨m, ?_, h2, h3⟩
          rcases Nat.lt_or_ge j m with hm | hm
          · omega
          · obtain rfl : m = j := by omega
            rw [hd] at h3
            cases h3
            exact absurd rfl hi
      rw [he]
theorem op_ford {f : Int → V4} {a c : Int} {v : V4} (h : ∀ t, (f t).ok) : opB (chF f a c fun x => x.add v) v a c = true := by
  rw [opB_iff]
  intro t h1 h2
  rw [chF_in h1 h2]
  have := h t
  obtain ⟨k1, k2, k3, k4⟩ := this
  simp [V4.le, V4.add]
  omega
end Go.Proofs.Ythkofnahimlijaa
