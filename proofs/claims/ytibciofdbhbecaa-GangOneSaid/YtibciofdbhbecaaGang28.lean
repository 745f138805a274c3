/- A profile beside a pool of three that is treated alike. Conditions: both stand in memory, apart. -/
import Derived.Test.YtibciofdbhbecaaGang27
namespace Go.Proofs.Ytibciofdbhbecaa
open Go Go.RowKit
/-- A profile that is none of the pool's stays behind a change of the pool's. -/
theorem Pr.fr {w w' : World} {p : Nat} {W : V4} {f : Int → V4} {n : Nat} {ps : Nat → Nat} (h : Pr w p W f) (hne : ∀ i, i < n → p ≠ ps i) (ht : ∀ i, i < n → ∃ cs, w.heap[ps i]? = some (.cells cs 79 (0, 0))) (hb : FrP w w' n ps) : Pr w' p W f := by
  obtain ⟨b, cap, m, T, V, h1, h2⟩ := h
  refine ⟨b, cap, m, T, V, ⟨(hb.block p (lt_of h1.h) hne).trans h1.h, h1.s.of (hb.block b h1.s.lt fun i hi e => ?_), h1.c, h1.n0, h1.nl, h1.ne⟩, h2⟩
  obtain ⟨cs, hcs⟩ := ht i hi
  obtain ⟨cs', fr, h3, _⟩ := h1.s
  rw [← e, h3] at hcs
  simp at hcs
/-- The pool stays behind a change of a profile that is none of its own. -/
theorem PL.other {w w' : World} {q : Nat} {sv : Value} {n : Nat} {ps : Nat → Nat} {Ws : Nat → V4} {fs : Nat → Int → V4} {p : Nat} {W : V4} {f : Int → V4} (h : PL w q sv n ps Ws fs) (hp : Pr w p W f) (hne : ∀ i, i < n → ps i ≠ p) (hb : w.grownBy w' (some p)) : PL w' q sv n ps Ws fs := by
  obtain ⟨cs, hcs⟩ := hp.type
  refine ⟨gb_keep hb h.h (fun e => ?_), own_keep h.r (fun k o hk c hc => gb_keep hb hc (fun e => ?_)), fun j hj => (h.p j hj).other hp (hne j hj) hb, h.d, h.m⟩
  · cases e
    rw [h.h] at hcs
    simp at hcs
  · cases e
    obtain ⟨_, ⟨e2, _⟩ | ⟨k2, cap2, cur2, e2, _, h4, _⟩⟩ := h.r
    · rw [hk] at e2
      cases e2
    · rw [hk] at e2
      simp only [Value.slice.injEq, Option.some.injEq, Addr.mk.injEq] at e2
      obtain ⟨⟨rfl, _⟩, _⟩ := e2
      rw [hcs] at h4
      simp at h4
/-- What Take answers, and what is free behind it. -/
noncomputable def tkE (f : Int → V4) (a c : Int) (v : V4) : Int := if spanB a c = true ∧ v.okB = true then (if opB f v a c = true then 0 else 60) else 1
noncomputable def tkF (f : Int → V4) (a c : Int) (v : V4) : Int → V4 := if tkE f a c v = 0 then chF f a c (fun x => x.sub v) else f
theorem tkE_bad {f : Int → V4} {a c : Int} {v : V4} (h : spanB a c = false ∨ v.okB = false) : tkE f a c v = 1 := by
  unfold tkE
  rw [if_neg]
  rintro ⟨h1, h2⟩
  rcases h with h | h
  · rw [h1] at h; cases h
  · rw [h2] at h; cases h
theorem tkE_busy {f : Int → V4} {a c : Int} {v : V4} (h : spanB a c = true ∧ v.okB = true) (ho : opB f v a c = false) : tkE f a c v = 60 := by
  unfold tkE
  rw [if_pos h, if_neg (by rw [ho]; decide)]
theorem tkE_ok {f : Int → V4} {a c : Int} {v : V4} (h : spanB a c = true ∧ v.okB = true) (ho : opB f v a c = true) : tkE f a c v = 0 := by
  unfold tkE
  rw [if_pos h, if_pos ho]
theorem take_one (p : Nat) (W : V4) (f : Int → V4) (a c : Int) (v : V4) (w : World) (h : Pr w p W f) : Calls Try.prog 24 #[.pointer (some ⟨p, 0, none⟩), .int .i64 a, .int .i64 c, .agg #[.int .i64 v.a, .int .i64 v.b, .int .i64 v.c, .int .i64 v.d]] w fun e w' => e = .returned (.int .i64 (tkE f a c v)) ∧ Pr w' p W (tkF f a c v) ∧ w.grownBy w' (some p) := by
  refine (take_any p W f a c v w h).mono ?_
  rintro e w' (⟨rfl, h1, h2⟩ | ⟨rfl, h1, ⟨t, t1, t2, t3⟩, h2⟩ | ⟨rfl, h1, h2, h3, h4⟩)
  · unfold tkF
    rw [tkE_bad h1]
    exact ⟨rfl, by rw [if_neg (by decide)]; exact h.keep h2, gb_below h2 _⟩
  · have ho : opB f v a c = false := by
      cases hb : opB f v a c
      · rfl
      · exact absurd ((opB_iff _ _ _ _).1 hb t t1 t2) t3
    unfold tkF
    rw [tkE_busy h1 ho]
    exact ⟨rfl, by rw [if_neg (by decide)]; exact h.keep h2, gb_below h2 _⟩
  · unfold tkF
    rw [tkE_ok h1 ((opB_iff _ _ _ _).2 h2)]
    exact ⟨rfl, by rw [if_pos rfl]; exact h4, h3⟩
theorem gang_three : Gang 3 [0, 1, 2] := by
  refine ⟨by simp, fun i z hz => ?_, fun i z u hz hu => ?_⟩
  · match i, hz with
    | 0, hz => simp at hz; omega
    | 1, hz => simp at hz; omega
    | 2, hz => simp at hz; omega
    | i + 3, hz => simp at hz
  · match i, hz, hu with
    | 0, hz, hu => simp at hz hu; omega
    | 1, hz, hu => simp at hz hu; omega
    | 2, _, hu => simp at hu
    | i + 3, hz, _ => simp at hz
theorem Ns.lit3 {w : World} : Ns (w.alloc (.cells #[.int .i64 0, .int .i64 1, .int .i64 2] 3)) (some ⟨w.heap.size, 0, none⟩) [0, 1, 2] := Ns.lit (heap_new w _) fun i z hz => by
  match i, hz with
  | 0, hz => simp at hz; simp [hz]
  | 1, hz => simp at hz; simp [hz]
  | 2, hz => simp at hz; simp [hz]
  | i + 3, hz => simp at hz
theorem Ns.lit6 {w : World} : Ns (w.alloc (.cells #[.int .i64 2, .int .i64 0, .int .i64 1, .int .i64 0, .int .i64 7, .int .i64 (-1)] 3)) (some ⟨w.heap.size, 0, none⟩) [2, 0, 1, 0, 7, -1] := Ns.lit (heap_new w _) fun i z hz => by
  match i, hz with
  | 0, hz => simp at hz; simp [hz]
  | 1, hz => simp at hz; simp [hz]
  | 2, hz => simp at hz; simp [hz]
  | 3, hz => simp at hz; simp [hz]
  | 4, hz => simp at hz; simp [hz]
  | 5, hz => simp at hz; simp [hz]
  | i + 6, hz => simp at hz
theorem take_three (q : Nat) (sv : Value) (ps : Nat → Nat) (Ws : Nat → V4) (fs : Nat → Int → V4) (f : Int → V4) (a c : Int) (v : V4) (w : World) (h : PL w q sv 3 ps Ws fs) (hf : ∀ i, i < 3 → fs i = f) : Calls Try.prog 19 #[.pointer (some ⟨q, 0, none⟩), .slice (some ⟨w.heap.size, 0, none⟩) 3 3, .int .i64 a, .int .i64 c, .agg #[.int .i64 v.a, .int .i64 v.b, .int .i64 v.c, .int .i64 v.d]] (w.alloc (.cells #[.int .i64 0, .int .i64 1, .int .i64 2] 3)) fun e w' => e = .returned (.int .i64 (tkE f a c v)) ∧ (∃ fs', PL w' q sv 3 ps Ws fs' ∧ ∀ i, i < 3 → fs' i = tkF f a c v) ∧ FrP w w' 3 ps := by
  have hb : Below w.heap.size w (w.alloc (.cells #[.int .i64 0, .int .i64 1, .int .i64 2] 3)) := (Below.refl _ _).alloc (Nat.le_refl _) _
  refine (take_all q sv 3 ps Ws fs (some ⟨w.heap.size, 0, none⟩) 3 [0, 1, 2] a c v _ (h.keep hb) Ns.lit3 (by decide) (Apart.new h (Nat.le_refl _))).mono ?_
  have hg := (gangB_iff 3 [0, 1, 2]).2 gang_three
  rintro e w' ⟨x, fs', rfl, hp, hfr, ⟨rfl, h1, rfl⟩ | ⟨rfl, h1, ⟨i, hi, h2⟩, rfl⟩ | ⟨rfl, h1, h2, rfl⟩⟩
  · have h3 : spanB a c = false ∨ v.okB = false := by
      rcases h1 with h1 | h1 | h1
      · rw [hg] at h1; cases h1
      · exact .inl h1
      · exact .inr h1
    refine ⟨by rw [tkE_bad h3], ⟨_, hp, fun i hi => ?_⟩, (FrP.of 3 ps hb).trans hfr⟩
    unfold tkF
    rw [tkE_bad h3, if_neg (by decide), hf i hi]
  · obtain ⟨_, h3, h4⟩ := badG_no h1
    have hi3 : i < 3 := by simp at hi; omega
    rw [hf i hi3] at h2
    refine ⟨by rw [tkE_busy ⟨h3, h4⟩ h2], ⟨_, hp, fun i hi => ?_⟩, (FrP.of 3 ps hb).trans hfr⟩
    unfold tkF
    rw [tkE_busy ⟨h3, h4⟩ h2, if_neg (by decide), hf i hi]
  · obtain ⟨_, h3, h4⟩ := badG_no h1
    have h5 := h2 0 (by simp)
    rw [hf 0 (by omega)] at h5
    refine ⟨by rw [tkE_ok ⟨h3, h4⟩ h5], ⟨_, hp, fun i hi => ?_⟩, (FrP.of 3 ps hb).trans hfr⟩
    unfold tkF
    rw [tkE_ok ⟨h3, h4⟩ h5, if_pos rfl, fsT_mem (by
      have : i = 0 ∨ i = 1 ∨ i = 2 := by omega
      rcases this with rfl | rfl | rfl <;> simp), hf i hi]
open Classical in
/-- The earliest tick where it may be asked. -/
noncomputable def oE (f : Int → V4) (v : V4) (a k : Int) : Option Int := if 1 ≤ k ∧ v.okB = true then eOf f v a k else none
theorem earl_one (p : Nat) (W : V4) (f : Int → V4) (a k : Int) (v : V4) (w : World) (h : Pr w p W f) (ha : a ≤ 9223372036854775807) : Calls Try.prog 25 #[.pointer (some ⟨p, 0, none⟩), .int .i64 a, .int .i64 k, .agg #[.int .i64 v.a, .int .i64 v.b, .int .i64 v.c, .int .i64 v.d]] w fun e w' => e = .returned (.tuple #[.int .i64 (eT (oE f v a k)), .bool (oE f v a k).isSome]) ∧ Below w.heap.size w w' := by
  unfold oE
  by_cases hk : 1 ≤ k ∧ v.okB = true
  · rw [if_pos hk]
    exact earl_all p W f a k v w h hk.2 hk.1 ha
  · rw [if_neg hk]
    refine earl_pr_bad p W f a k v w h ?_
    rcases Int.lt_or_le k 1 with h1 | h1
    · exact .inl h1
    · cases hv : v.okB
      · exact .inr (.inr rfl)
      · exact absurd ⟨h1, hv⟩ hk
/-- What Find tells of places that are treated alike. -/
def OnePost (w : World) (o : Option Int) (L : List Nat) (e : Ending) (w' : World) : Prop := Below w.heap.size w w' ∧ ((∃ t v', o = some t ∧ e = .returned (.tuple #[.int .i64 t, v', .bool true]) ∧ w'.ownsRow w.heap.size 3 1 v' L.length (nums L)) ∨ (o = none ∧ e = .returned (.tuple #[.int .i64 0, .slice none 0 0, .bool false])))
theorem find_one {w w' : World} {fs : Nat → Int → V4} {f : Int → V4} {xs : List Int} {v : V4} {a k m : Int} {L : List Nat} {e : Ending} (hL : cntL 3 xs 16 = L) (hm : m = (L.length : Nat)) (hm1 : 1 ≤ m) (hf : ∀ i, i < 3 → fs i = f) (h : FindR w 3 fs xs v a k m e w') : OnePost w (oE f v a k) L e w' := by
  have hL3 : ∀ i, i ∈ L → i < 3 := fun i hi => by rw [← hL] at hi; exact cntL_lt hi
  have hop : ∀ t, openL 3 fs xs t (t + k) v = if opB f v t (t + k) = true then L else [] := fun t => by
    unfold openL
    rw [hL]
    split
    · next h1 =>
      rw [List.filter_eq_self]
      intro i hi
      rw [hf i (hL3 i hi), h1]
    · next h1 =>
      rw [List.filter_eq_nil_iff]
      intro i hi
      rw [hf i (hL3 i hi)]
      exact h1
  have hmn : m.toNat = L.length := by omega
  have hat : ∀ t, FindAt 3 fs xs v a k m.toNat t ↔ FirstAt f v a k t := fun t => by
    have key : ∀ u, m.toNat ≤ (openL 3 fs xs u (u + k) v).length ↔ Fit f v u k := fun u => by
      rw [hop, hmn, fit_op]
      have hl1 : 1 ≤ L.length := by omega
      split
      · next h1 => simp [h1]
      · next h1 =>
        constructor
        · intro hx
          simp at hx
          rw [hx] at hl1
          simp at hl1
        · intro hx
          exact absurd hx h1
    unfold FindAt FirstAt
    rw [key]
    constructor
    · rintro ⟨h1, h2, h3, h4⟩
      exact ⟨h1, h2, h3, fun u u1 u2 hu => by have := (key u).2 hu; have := h4 u u1 u2; omega⟩
    · rintro ⟨h1, h2, h3, h4⟩
      exact ⟨h1, h2, h3, fun u u1 u2 => Nat.lt_of_not_le fun hu => h4 u u1 u2 ((key u).1 hu)⟩
  obtain ⟨hb, ⟨t, v', rfl, ⟨_, h2, h3, h4⟩, ho⟩ | ⟨rfl, hno⟩⟩ := h
  · have h5 := (hat t).1 h4
    refine ⟨hb, .inl ⟨t, v', ?_, rfl, ?_⟩⟩
    · unfold oE
      rw [if_pos ⟨h2, h3⟩]
      exact eOf_some.2 h5
    · rw [hop, if_pos (fit_op.1 h5.2.2.1), hmn, List.take_length] at ho
      exact ho
  · refine ⟨hb, .inr ⟨?_, rfl⟩⟩
    unfold oE
    split
    · next h1 =>
      cases he : eOf f v a k with
      | none => rfl
      | some t => exact absurd ⟨hm1, h1.1, h1.2, (hat t).2 (eOf_some.1 he)⟩ (hno t)
    · rfl
def OneR (w : World) (o : Option Int) (c : Nat) (x : Int) (e : Ending) (w' : World) : Prop := Below w.heap.size w w' ∧ ((∃ t b cc, o = some t ∧ e = .returned (.tuple #[.int .i64 t, .slice (some ⟨b, 0, none⟩) c cc, .bool true]) ∧ w'.cell? ⟨b, 0, none⟩ = some (.int .i64 x)) ∨ (o = none ∧ e = .returned (.tuple #[.int .i64 0, .slice none 0 0, .bool false])))
theorem find_six (q : Nat) (sv : Value) (ps : Nat → Nat) (Ws : Nat → V4) (fs : Nat → Int → V4) (f : Int → V4) (a k : Int) (v : V4) (w : World) (h : PL w q sv 3 ps Ws fs) (hf : ∀ i, i < 3 → fs i = f) (hk : k ≤ 9223372036854775807) (ha : a ≤ 9223372036854775807) : Calls Try.prog 17 #[.pointer (some ⟨q, 0, none⟩), .slice (some ⟨w.heap.size, 0, none⟩) 6 6, .int .i64 3, .agg #[.int .i64 v.a, .int .i64 v.b, .int .i64 v.c, .int .i64 v.d], .int .i64 k, .int .i64 a] (w.alloc (.cells #[.int .i64 2, .int .i64 0, .int .i64 1, .int .i64 0, .int .i64 7, .int .i64 (-1)] 3)) (OneR w (oE f v a k) 3 0) := by
  have hb : Below w.heap.size w (w.alloc (.cells #[.int .i64 2, .int .i64 0, .int .i64 1, .int .i64 0, .int .i64 7, .int .i64 (-1)] 3)) := (Below.refl _ _).alloc (Nat.le_refl _) _
  refine (find_all q sv 3 ps Ws fs (some ⟨w.heap.size, 0, none⟩) 6 [2, 0, 1, 0, 7, -1] 3 k a v _ (h.keep hb) Ns.lit6 (by decide) hk ha).mono ?_
  intro e w' hR
  obtain ⟨hw, ⟨t, v', h1, rfl, ho⟩ | ⟨h1, rfl⟩⟩ := find_one (L := [0, 1, 2]) (by decide) (by decide) (by decide) hf hR
  · obtain ⟨b, cc, rfl, _, hn⟩ := Nl.of_row ho (by decide)
    obtain ⟨cs, k1, _, _, _, k5⟩ := hn
    exact ⟨hb.trans (hw.mono hb.size), .inl ⟨t, b, cc, h1, rfl, (cell_of k1 0).trans (k5 0 0 rfl)⟩⟩
  · exact ⟨hb.trans (hw.mono hb.size), .inr ⟨h1, rfl⟩⟩
theorem find_sole (q : Nat) (sv : Value) (ps : Nat → Nat) (Ws : Nat → V4) (fs : Nat → Int → V4) (f : Int → V4) (a k : Int) (v : V4) (w : World) (h : PL w q sv 3 ps Ws fs) (hf : ∀ i, i < 3 → fs i = f) (hk : k ≤ 9223372036854775807) (ha : a ≤ 9223372036854775807) : Calls Try.prog 17 #[.pointer (some ⟨q, 0, none⟩), .slice (some ⟨w.heap.size, 0, none⟩) 1 1, .int .i64 1, .agg #[.int .i64 v.a, .int .i64 v.b, .int .i64 v.c, .int .i64 v.d], .int .i64 k, .int .i64 a] (w.alloc (.cells #[.int .i64 2] 3)) (OneR w (oE f v a k) 1 2) := by
  have hb : Below w.heap.size w (w.alloc (.cells #[.int .i64 2] 3)) := (Below.refl _ _).alloc (Nat.le_refl _) _
  refine (find_all q sv 3 ps Ws fs (some ⟨w.heap.size, 0, none⟩) 1 [2] 1 k a v _ (h.keep hb) Ns.lit1 (by decide) hk ha).mono ?_
  intro e w' hR
  obtain ⟨hw, ⟨t, v', h1, rfl, ho⟩ | ⟨h1, rfl⟩⟩ := find_one (L := [2]) (by decide) (by decide) (by decide) hf hR
  · obtain ⟨b, cc, rfl, _, hn⟩ := Nl.of_row ho (by decide)
    obtain ⟨cs, k1, _, _, _, k5⟩ := hn
    exact ⟨hb.trans (hw.mono hb.size), .inl ⟨t, b, cc, h1, rfl, (cell_of k1 0).trans (k5 0 2 rfl)⟩⟩
  · exact ⟨hb.trans (hw.mono hb.size), .inr ⟨h1, rfl⟩⟩
theorem new_three (h : V4) (w : World) (b : Nat) (t : TypeId) (hb : w.heap[b]? = some (.cells #[.int .i64 h.a, .int .i64 h.b, .int .i64 h.c, .int .i64 h.d, .int .i64 h.a, .int .i64 h.b, .int .i64 h.c, .int .i64 h.d, .int .i64 h.a, .int .i64 h.b, .int .i64 h.c, .int .i64 h.d] t (0, 0))) : Calls Try.prog 10 #[.slice (some ⟨b, 0, none⟩) 3 3] w (GNewPost w [h, h, h]) := by
  have hV : Vs w (some ⟨b, 0, none⟩) [h, h, h] := .inr ⟨b, 0, rfl, lt_of hb, fun i x hx => by
    match i, hx with
    | 0, hx => cases hx; exact ⟨cell_of hb 0, cell_of hb 1, cell_of hb 2, cell_of hb 3⟩
    | 1, hx => cases hx; exact ⟨cell_of hb 4, cell_of hb 5, cell_of hb 6, cell_of hb 7⟩
    | 2, hx => cases hx; exact ⟨cell_of hb 8, cell_of hb 9, cell_of hb 10, cell_of hb 11⟩
    | i + 3, hx => simp at hx⟩
  exact gnew_any _ 3 [h, h, h] w hV (by simp)
end Go.Proofs.Ytibciofdbhbecaa
