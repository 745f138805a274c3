/- What is free behind a change, in terms of what was: plain mathematics; a call of Take or Give whose outcome is known. Conditions: none. -/
import Derived.Test.YtadnbhjbaicjeaaEr
namespace Go.Proofs.Ytadnbhjbaicjeaa
open Go Go.RowKit
theorem MinOf.uniq {W : V4} {f g : Int → V4} {a c : Int} {m m' : V4} (h : MinOf W f a c m) (k : MinOf W g a c m') (hf : ∀ t, 0 ≤ t → t < 1099511627776 → a ≤ t → t < c → f t = g t) : m = m' := by
  refine V4.anti ((k m).2 ⟨((h m).1 (V4.le_refl _)).1, fun t t1 t2 t3 t4 => ?_⟩) ((h m').2 ⟨((k m').1 (V4.le_refl _)).1, fun t t1 t2 t3 t4 => ?_⟩)
  · rw [← hf t t1 t2 t3 t4]
    exact ((h m).1 (V4.le_refl _)).2 t t1 t2 t3 t4
  · rw [hf t t1 t2 t3 t4]
    exact ((k m').1 (V4.le_refl _)).2 t t1 t2 t3 t4
theorem V4.le_sub {x y v : V4} : x.le (y.sub v) ↔ (x.add v).le y := by
  unfold V4.le V4.sub V4.add
  simp only
  omega
theorem V4.sub_mono {x y v : V4} (h : x.le y) : (x.sub v).le (y.sub v) := by
  unfold V4.le V4.sub at *
  simp only
  omega
theorem MinOf.sub {W v m m' : V4} {f : Int → V4} {a c : Int} (h : MinOf W f a c m) (k : MinOf W (chF f a c fun x => x.sub v) a c m') (hW : ∀ t, (f t).le W) (hv : v.ok) (ha : 0 ≤ a) (hac : a < c) (hc : c ≤ 1099511627776) : m' = m.sub v := by
  refine V4.anti ?_ ?_
  · rw [V4.le_sub, h]
    have k2 := ((k m').1 (V4.le_refl _)).2
    have k3 : ∀ t, 0 ≤ t → t < 1099511627776 → a ≤ t → t < c → (m'.add v).le (f t) := fun t t1 t2 t3 t4 => by
      have := k2 t t1 t2 t3 t4
      rw [chF_in t3 t4] at this
      exact V4.le_sub.1 this
    exact ⟨V4.le_trans (k3 a ha (by omega) (Int.le_refl _) hac) (hW a), k3⟩
  · rw [k]
    obtain ⟨h1, h2⟩ := (h m).1 (V4.le_refl _)
    refine ⟨V4.sub_le h1 hv, fun t t1 t2 t3 t4 => ?_⟩
    rw [chF_in t3 t4]
    exact V4.sub_mono (h2 t t1 t2 t3 t4)
theorem MinOf.nonneg {W m : V4} {f : Int → V4} {a c : Int} (h : MinOf W f a c m) (hW : W.ok) (hf : ∀ t, (f t).ok) : 0 ≤ m.a ∧ 0 ≤ m.b ∧ 0 ≤ m.c ∧ 0 ≤ m.d := by
  have z : ∀ {x : V4}, x.ok → V4.z.le x := fun {x} hx => by
    unfold V4.ok at hx
    unfold V4.le V4.z
    simp only
    omega
  exact (h V4.z).2 ⟨z hW, fun t _ _ _ _ => z (hf t)⟩
theorem MinOf.upper {W m : V4} {f : Int → V4} {a c : Int} (h : MinOf W f a c m) (hW : W.ok) : m.a ≤ 1073741824 ∧ m.b ≤ 1073741824 ∧ m.c ≤ 1073741824 ∧ m.d ≤ 1073741824 := by
  have h1 := ((h m).1 (V4.le_refl _)).1
  unfold V4.le at h1
  unfold V4.ok at hW
  omega
theorem chF_back {f : Int → V4} {a c : Int} {v : V4} : chF (chF f a c fun x => x.sub v) a c (fun x => x.add v) = f := by
  funext t
  by_cases h : a ≤ t ∧ t < c
  · rw [chF_in h.1 h.2, chF_in h.1 h.2, V4.add_sub]
  · rw [chF_out (by omega), chF_out (by omega)]
theorem Pr.facts {w : World} {p : Nat} {W : V4} {f : Int → V4} (h : Pr w p W f) : (∀ t, (f t).le W) ∧ (∀ t, (t < 0 ∨ 1099511627776 ≤ t) → f t = W) ∧ (∀ t, (f t).ok) ∧ W.ok := by
  obtain ⟨b, cap, n, T, V, _, _, h3⟩ := h
  exact h3
/-- Giving back what was taken. -/
theorem give_back (p : Nat) (W : V4) (f : Int → V4) (a c : Int) (v : V4) (w : World) (h : Pr w p W (chF f a c fun x => x.sub v)) (hf : ∀ t, (f t).le W) (hs : spanB a c = true ∧ v.okB = true) : Calls Try.prog 13 #[.pointer (some ⟨p, 0, none⟩), .int .i64 a, .int .i64 c, .agg #[.int .i64 v.a, .int .i64 v.b, .int .i64 v.c, .int .i64 v.d]] w fun e w' => (∃ x : Int, e = .returned (.int .i64 x) ∧ (x == 0) = true) ∧ Pr w' p W f ∧ w.grownBy w' (some p) := by
  refine (give_any p W _ a c v w h).mono ?_
  rintro e w' (⟨h1, h2, h3⟩ | ⟨h1, h2, ⟨t, t1, t2, h4⟩, h3⟩ | ⟨h1, h2, h4, h3, h5⟩)
  · rw [hs.1, hs.2] at h2
    rcases h2 with h2 | h2 <;> cases h2
  · rw [chF_in t1 t2, V4.add_sub] at h4
    exact absurd (hf t) h4
  · rw [chF_back] at h5
    exact ⟨⟨0, h1, rfl⟩, h5, h3⟩
theorem m_at (m : V4) (i : Nat) (hi : i < 4) : (#[.int .i64 m.a, .int .i64 m.b, .int .i64 m.c, .int .i64 m.d] : Array Value)[i]? = some (.int .i64 (m.m i)) := by
  rcases (by omega : i = 0 ∨ i = 1 ∨ i = 2 ∨ i = 3) with rfl | rfl | rfl | rfl <;> rfl
theorem act_at (k a c : Value) (m : V4) (i : Nat) (hi : i < 4) : (#[k, a, c, .int .i64 m.a, .int .i64 m.b, .int .i64 m.c, .int .i64 m.d] : Array Value)[3 + i]? = some (.int .i64 (m.m i)) := by
  rcases (by omega : i = 0 ∨ i = 1 ∨ i = 2 ∨ i = 3) with rfl | rfl | rfl | rfl <;> rfl
theorem m_sub (x y : V4) (i : Nat) : (x.sub y).m i = x.m i - y.m i := by
  match i with
  | 0 => rfl
  | 1 => rfl
  | 2 => rfl
  | _ + 3 => rfl
theorem m_rng {m : V4} (h0 : 0 ≤ m.a ∧ 0 ≤ m.b ∧ 0 ≤ m.c ∧ 0 ≤ m.d) (h1 : m.a ≤ 1073741824 ∧ m.b ≤ 1073741824 ∧ m.c ≤ 1073741824 ∧ m.d ≤ 1073741824) (i : Nat) : 0 ≤ m.m i ∧ m.m i ≤ 1073741824 := by
  match i with
  | 0 => exact ⟨h0.1, h1.1⟩
  | 1 => exact ⟨h0.2.1, h1.2.1⟩
  | 2 => exact ⟨h0.2.2.1, h1.2.2.1⟩
  | _ + 3 => exact ⟨h0.2.2.2, h1.2.2.2⟩
end Go.Proofs.Ytadnbhjbaicjeaa
