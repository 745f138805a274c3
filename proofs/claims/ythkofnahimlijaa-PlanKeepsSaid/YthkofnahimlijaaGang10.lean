/- gang's Take of a gang that may be. Conditions: the pool and the numbers stand in memory, apart from one another. -/
import Derived.Test.YthkofnahimlijaaGang9
namespace Go.Proofs.Ythkofnahimlijaa
open Go Go.RowKit
theorem sorted_ext : ∀ {l m : List Int}, l.Pairwise (· < ·) → m.Pairwise (· < ·) → (∀ x, x ∈ l ↔ x ∈ m) → l = m
  | [], [], _, _, _ => rfl
  | [], y :: m, _, _, h => by have := (h y).2 (by simp); simp at this
  | x :: l, [], _, _, h => by have := (h x).1 (by simp); simp at this
  | x :: l, y :: m, hl, hm, h => by
    rw [List.pairwise_cons] at hl hm
    have hxy : x = y := by
      have h1 := (h x).1 (by simp)
      have h2 := (h y).2 (by simp)
      rcases List.mem_cons.1 h1 with e | e
      · exact e
      · rcases List.mem_cons.1 h2 with e' | e'
        · exact e'.symm
        · have := hl.1 y e'
          have := hm.1 x e
          omega
    subst hxy
    congr 1
    refine sorted_ext hl.2 hm.2 fun z => ?_
    constructor
    · intro hz
      rcases List.mem_cons.1 ((h z).1 (List.mem_cons_of_mem _ hz)) with e | e
      · have := hl.1 z hz; omega
      · exact e
    · intro hz
      rcases List.mem_cons.1 ((h z).2 (List.mem_cons_of_mem _ hz)) with e | e
      · have := hm.1 z hz; omega
      · exact e
theorem Gang.sorted {n : Nat} {xs : List Int} (h : Gang n xs) : xs.Pairwise (· < ·) := by
  obtain ⟨_, _, h3⟩ := h
  have aux : ∀ (l : List Int), (∀ (i : Nat) x y, l[i]? = some x → l[i + 1]? = some y → x < y) → l.Pairwise (· < ·) := by
    intro l
    induction l with
    | nil => intro _; exact List.Pairwise.nil
    | cons a l ih =>
      intro hl
      have h1 := ih fun i x y hx hy => hl (i + 1) x y (by simpa using hx) (by simpa using hy)
      refine List.pairwise_cons.2 ⟨fun z hz => ?_, h1⟩
      cases l with
      | nil => simp at hz
      | cons b l =>
        have hab := hl 0 a b rfl rfl
        rcases List.mem_cons.1 hz with e | e
        · rw [e]; exact hab
        · have := (List.pairwise_cons.1 h1).1 z e
          omega
  exact aux xs h3
theorem cntL_gang {n : Nat} {xs : List Int} (h : Gang n xs) (hn : n ≤ 16) : (cntL n xs 16).map (fun i : Nat => (i : Int)) = xs := by
  refine sorted_ext ?_ h.sorted fun x => ?_
  · rw [List.pairwise_map]
    unfold cntL
    refine List.Pairwise.filter _ ?_
    exact List.pairwise_lt_range.imp fun h => by omega
  · rw [List.mem_map]
    unfold cntL
    constructor
    · rintro ⟨i, hi, rfl⟩
      have := (List.mem_filter.1 hi).2
      simp [cntS] at this
      exact this.2
    · intro hx
      obtain ⟨j, hj⟩ := List.getElem?_of_mem hx
      obtain ⟨h1, h2⟩ := h.2.1 j x hj
      obtain ⟨d, rfl⟩ := Int.eq_ofNat_of_zero_le h1
      refine ⟨d, List.mem_filter.2 ⟨by simp; omega, ?_⟩, rfl⟩
      simp [cntS]
      exact ⟨by omega, hx⟩
theorem openL_len {n : Nat} {fs : Nat → Int → V4} {xs : List Int} {a c : Int} {v : V4} (h : Gang n xs) (hn : n ≤ 16) : (openL n fs xs a c v).length < xs.length ↔ ∃ i : Nat, (i : Int) ∈ xs ∧ opB (fs i) v a c = false := by
  have hx := cntL_gang h hn
  have hl : (cntL n xs 16).length = xs.length := by
    have := congrArg List.length hx
    simpa using this
  unfold openL
  rw [← hl, List.length_filter_lt_length_iff_exists]
  constructor
  · rintro ⟨i, hi, hb⟩
    refine ⟨i, ?_, by simpa using hb⟩
    rw [← hx]
    exact List.mem_map_of_mem hi
  · rintro ⟨i, hi, hb⟩
    rw [← hx] at hi
    obtain ⟨j, hj, e⟩ := List.mem_map.1 hi
    obtain rfl : j = i := by omega
    exact ⟨j, hj, by simp [hb]⟩
/-- What is free behind the first k of a gang were taken. -/
def fsT (fs : Nat → Int → V4) (xs : List Int) (a c : Int) (v : V4) (k : Nat) : Nat → Int → V4 := fun i => if (xs.take k).contains (i : Int) = true then chF (fs i) a c (fun x => x.sub v) else fs i
theorem fsT_zero (fs : Nat → Int → V4) (xs : List Int) (a c : Int) (v : V4) : fsT fs xs a c v 0 = fs := by
  funext i
  unfold fsT
  simp
theorem fsT_step {n : Nat} {fs : Nat → Int → V4} {xs : List Int} {a c : Int} {v : V4} {k d : Nat} (h : Gang n xs) (hd : xs[k]? = some (d : Int)) : fsT fs xs a c v k d = fs d ∧ setF (fsT fs xs a c v k) d (chF (fs d) a c fun x => x.sub v) = fsT fs xs a c v (k + 1) := by
  have hs := h.sorted
  have hno : ¬ (d : Int) ∈ xs.take k := by
    intro hm
    obtain ⟨j, hj⟩ := List.getElem?_of_mem hm
    rw [List.getElem?_take] at hj
    split at hj
    · next hjk =>
      have h1 := List.getElem?_eq_some_iff.1 hj
      have h2 := List.getElem?_eq_some_iff.1 hd
      have := List.pairwise_iff_getElem.1 hs j k h1.1 h2.1 hjk
      rw [h1.2, h2.2] at this
      omega
    · cases hj
  refine ⟨?_, ?_⟩
  · unfold fsT
    rw [if_neg (by simpa using hno)]
  · funext i
    unfold setF
    by_cases hi : i = d
    · subst hi
      rw [if_pos rfl]
      unfold fsT
      rw [if_pos (by rw [List.take_add_one, hd]; simp)]
    · rw [if_neg hi]
      unfold fsT
      have he : (xs.take (k + 1)).contains (i : Int) = (xs.take k).contains (i : Int) := by
        rw [Bool.eq_iff_iff, List.take_add_one, hd]
        simp
        intro e
        omega
      rw [he]
theorem fsT_all {fs : Nat → Int → V4} {xs : List Int} {a c : Int} {v : V4} : fsT fs xs a c v xs.length = fun i : Nat => if xs.contains (i : Int) = true then chF (fs i) a c (fun x => x.sub v) else fs i := by
  funext i
  unfold fsT
  rw [List.take_length]
end Go.Proofs.Ythkofnahimlijaa
