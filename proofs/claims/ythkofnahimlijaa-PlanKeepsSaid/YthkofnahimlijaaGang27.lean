/- What is found can be taken and given back: plain mathematics. Conditions: none. -/
import Derived.Test.YthkofnahimlijaaGang26
import Derived.RegionTactic
import Derived.Deep.RegionWith
import Derived.Deep.DeepCutAuto
namespace Go.Proofs.Ythkofnahimlijaa
open Go Go.RowKit
theorem MinOf.uniq {W : V4} {f g : Int → V4} {a c : Int} {m m' : V4} (h : MinOf W f a c m) (k : MinOf W g a c m') (hf : ∀ t, 0 ≤ t → t < 1099511627776 → a ≤ t → t < c → f t = g t) : m = m' := by
  refine V4.anti ((k m).2 ⟨((h m).1 (V4.le_refl _)).1, fun t t1 t2 t3 t4 => ?_⟩) ((h m').2 ⟨((k m').1 (V4.le_refl _)).1, fun t t1 t2 t3 t4 => ?_⟩)
  · rw [← hf t t1 t2 t3 t4]
    exact ((h m).1 (V4.le_refl _)).2 t t1 t2 t3 t4
  · rw [hf t t1 t2 t3 t4]
    exact ((k m').1 (V4.le_refl _)).2 t t1 t2 t3 t4
theorem V4.le_sub {x y v : V4} : x.le (y.sub v) ↔ (x.add v).le y := by
  unfold V4.le V4.sub V4.add
  simp only
  omega
theorem V4.sub_mono {x y v : V4} (h : x.le y) : (x.sub v).le (y.sub v) := by
  unfold V4.le V4.sub at *
  simp only
  omega
theorem MinOf.sub {W v m m' : V4} {f : Int → V4} {a c : Int} (h : MinOf W f a c m) (k : MinOf W (chF f a c fun x => x.sub v) a c m') (hW : ∀ t, (f t).le W) (hv : v.ok) (ha : 0 ≤ a) (hac : a < c) (hc : c ≤ 1099511627776) : m' = m.sub v := by
  refine V4.anti ?_ ?_
  · rw [V4.le_sub, h]
    have k2 := ((k m').1 (V4.le_refl _)).2
    have k3 : ∀ t, 0 ≤ t → t < 1099511627776 → a ≤ t → t < c → (m'.add v).le (f t) := fun t t1 t2 t3 t4 => by
      have := k2 t t1 t2 t3 t4
      rw [chF_in t3 t4] at this
      exact V4.le_sub.1 this
    exact ⟨V4.le_trans (k3 a ha (by omega) (Int.le_refl _) hac) (hW a), k3⟩
  · rw [k]
    obtain ⟨h1, h2⟩ := (h m).1 (V4.le_refl _)
    refine ⟨V4.sub_le h1 hv, fun t t1 t2 t3 t4 => ?_⟩
    rw [chF_in t3 t4]
    exact V4.sub_mono (h2 t t1 t2 t3 t4)
theorem MinOf.nonneg {W m : V4} {f : Int → V4} {a c : Int} (h : MinOf W f a c m) (hW : W.ok) (hf : ∀ t, (f t).ok) : 0 ≤ m.a ∧ 0 ≤ m.b ∧ 0 ≤ m.c ∧ 0 ≤ m.d := by
  have z : ∀ {x : V4}, x.ok → V4.z.le x := fun {x} hx => by
    unfold V4.ok at hx
    unfold V4.le V4.z
    simp only
    omega
  exact (h V4.z).2 ⟨z hW, fun t _ _ _ _ => z (hf t)⟩
theorem MinOf.upper {W m : V4} {f : Int → V4} {a c : Int} (h : MinOf W f a c m) (hW : W.ok) : m.a ≤ 1073741824 ∧ m.b ≤ 1073741824 ∧ m.c ≤ 1073741824 ∧ m.d ≤ 1073741824 := by
  have h1 := ((h m).1 (V4.le_refl _)).1
  unfold V4.le at h1
  unfold V4.ok at hW
  omega
theorem chF_back {f : Int → V4} {a c : Int} {v : V4} : chF (chF f a c fun x => x.sub v) a c (fun x => x.add v) = f := by
  funext t
  by_cases h : a ≤ t ∧ t < c
  · rw [chF_in h.1 h.2, chF_in h.1 h.2, V4.add_sub]
  · rw [chF_out (by omega), chF_out (by omega)]
theorem m_at (m : V4) (i : Nat) (hi : i < 4) : (#[.int .i64 m.a, .int .i64 m.b, .int .i64 m.c, .int .i64 m.d] : Array Value)[i]? = some (.int .i64 (m.m i)) := by
  rcases (by omega : i = 0 ∨ i = 1 ∨ i = 2 ∨ i = 3) with rfl | rfl | rfl | rfl <;> rfl
theorem act_at (k a c : Value) (m : V4) (i : Nat) (hi : i < 4) : (#[k, a, c, .int .i64 m.a, .int .i64 m.b, .int .i64 m.c, .int .i64 m.d] : Array Value)[3 + i]? = some (.int .i64 (m.m i)) := by
  rcases (by omega : i = 0 ∨ i = 1 ∨ i = 2 ∨ i = 3) with rfl | rfl | rfl | rfl <;> rfl
theorem m_sub (x y : V4) (i : Nat) : (x.sub y).m i = x.m i - y.m i := by
  match i with
  | 0 => rfl
  | 1 => rfl
  | 2 => rfl
  | _ + 3 => rfl
theorem m_rng {m : V4} (h0 : 0 ≤ m.a ∧ 0 ≤ m.b ∧ 0 ≤ m.c ∧ 0 ≤ m.d) (h1 : m.a ≤ 1073741824 ∧ m.b ≤ 1073741824 ∧ m.c ≤ 1073741824 ∧ m.d ≤ 1073741824) (i : Nat) : 0 ≤ m.m i ∧ m.m i ≤ 1073741824 := by
  match i with
  | 0 => exact ⟨h0.1, h1.1⟩
  | 1 => exact ⟨h0.2.1, h1.2.1⟩
  | 2 => exact ⟨h0.2.2.1, h1.2.2.1⟩
  | _ + 3 => exact ⟨h0.2.2.2, h1.2.2.2⟩

theorem act5_at (k n a c m : Value) (v : V4) (i : Nat) (hi : i < 4) : (#[k, n, a, c, m, .int .i64 v.a, .int .i64 v.b, .int .i64 v.c, .int .i64 v.d] : Array Value)[5 + i]? = some (.int .i64 (v.m i)) := by
  match i, hi with
  | 0, _ => rfl
  | 1, _ => rfl
  | 2, _ => rfl
  | 3, _ => rfl
def intL (l : List Nat) : List Int := l.map fun i : Nat => (i : Int)
theorem intL_len (l : List Nat) : (intL l).length = l.length := by simp [intL]
theorem intL_at {l : List Nat} {i x : Nat} (h : l[i]? = some x) : (intL l)[i]? = some (x : Int) := by
  unfold intL
  rw [List.getElem?_map, h]
  rfl
theorem mem_intL {l : List Nat} {i : Nat} : (i : Int) ∈ intL l ↔ i ∈ l := by
  unfold intL
  rw [List.mem_map]
  constructor
  · rintro ⟨j, hj, e⟩
    obtain rfl : j = i := by omega
    exact hj
  · intro h
    exact ⟨i, h, rfl⟩
theorem gang_of {n : Nat} {l : List Nat} (h0 : l ≠ []) (hp : l.Pairwise (· < ·)) (hn : ∀ i, i ∈ l → i < n) : Gang n (intL l) := by
  refine ⟨?_, fun i x hx => ?_, fun i x y hx hy => ?_⟩
  · intro e
    apply h0
    have := congrArg List.length e
    rw [intL_len] at this
    exact List.eq_nil_of_length_eq_zero (by simpa using this)
  · unfold intL at hx
    rw [List.getElem?_map, Option.map_eq_some_iff] at hx
    obtain ⟨j, hj, rfl⟩ := hx
    have := hn j (List.mem_of_getElem? hj)
    omega
  · unfold intL at hx hy
    rw [List.getElem?_map, Option.map_eq_some_iff] at hx hy
    obtain ⟨j, hj, rfl⟩ := hx
    obtain ⟨k, hk, rfl⟩ := hy
    obtain ⟨j1, j2⟩ := List.getElem?_eq_some_iff.1 hj
    obtain ⟨k1, k2⟩ := List.getElem?_eq_some_iff.1 hk
    have := List.pairwise_iff_getElem.1 hp i (i + 1) j1 k1 (by omega)
    omega
theorem openL_pair (n : Nat) (fs : Nat → Int → V4) (xs : List Int) (a c : Int) (v : V4) (m : Nat) : ((openL n fs xs a c v).take m).Pairwise (· < ·) := by
  refine List.Pairwise.sublist (List.take_sublist _ _) ?_
  unfold openL cntL
  refine List.Pairwise.filter _ (List.Pairwise.filter _ ?_)
  exact List.pairwise_lt_range
theorem openL_mem {n : Nat} {fs : Nat → Int → V4} {xs : List Int} {a c : Int} {v : V4} {m i : Nat} (h : i ∈ (openL n fs xs a c v).take m) : i < n ∧ (i : Int) ∈ xs ∧ opB (fs i) v a c = true := by
  have h1 := List.mem_of_mem_take h
  unfold openL at h1
  obtain ⟨h2, h3⟩ := List.mem_filter.1 h1
  obtain ⟨_, h4, h5⟩ := cntL_mem.1 h2
  exact ⟨h4, h5, h3⟩
/-- What was taken of a gang and given back is as it was. -/
theorem fsG_back_all {fs : Nat → Int → V4} {xs : List Int} {a c : Int} {v : V4} : fsG (fsT fs xs a c v xs.length) xs a c v xs.length 0 = fs := by
  funext i
  unfold fsG fsT
  rw [List.drop_zero, List.take_length]
  by_cases h : xs.contains (i : Int) = true
  · rw [if_pos h, if_pos h, chF_back]
  · rw [if_neg h, if_neg h]
theorem fsT_mem {fs : Nat → Int → V4} {xs : List Int} {a c : Int} {v : V4} {i : Nat} (h : (i : Int) ∈ xs) : fsT fs xs a c v xs.length i = chF (fs i) a c (fun x => x.sub v) := by
  unfold fsT
  rw [List.take_length, if_pos (by simpa using h)]
/-- Take of what was found. -/
theorem take_found (q : Nat) (sv : Value) (n : Nat) (ps : Nat → Nat) (Ws : Nat → V4) (fs : Nat → Int → V4) (A : Option Addr) (cap : Nat) (l : List Nat) (a c : Int) (v : V4) (w : World) (h : PL w q sv n ps Ws fs) (hN : Ns w A (intL l)) (hl : l.length ≤ 16) (hap : Apart A n ps) (hg : Gang n (intL l)) (hs : spanB a c = true) (hv : v.okB = true) (ho : ∀ i, i ∈ l → opB (fs i) v a c = true) :
    Calls Try.prog 16 #[.pointer (some ⟨q, 0, none⟩), .slice A l.length cap, .int .i64 a, .int .i64 c, .agg #[.int .i64 v.a, .int .i64 v.b, .int .i64 v.c, .int .i64 v.d]] w fun e w' => e = .returned (.int .i64 0) ∧ PL w' q sv n ps Ws (fsT fs (intL l) a c v (intL l).length) ∧ FrP w w' n ps := by
  have h0 := gtake_any q sv n ps Ws fs A cap (intL l) a c v w h hN (by rw [intL_len]; omega) hap hg hs hv
  rw [intL_len] at h0 ⊢
  refine h0.mono ?_
  rintro e w' (⟨rfl, ⟨i, hi, h1⟩, hw⟩ | ⟨rfl, _, hp, hf⟩)
  · rw [ho i (mem_intL.1 hi)] at h1
    cases h1
  · rw [intL_len] at hp
    exact ⟨rfl, hp, hf⟩
theorem give_found (q : Nat) (sv : Value) (n : Nat) (ps : Nat → Nat) (Ws : Nat → V4) (fs : Nat → Int → V4) (A : Option Addr) (cap : Nat) (l : List Nat) (a c : Int) (v : V4) (w : World) (h : PL w q sv n ps Ws (fsT fs (intL l) a c v (intL l).length)) (hN : Ns w A (intL l)) (hl : l.length ≤ 16) (hcap : l.length ≤ cap) (hap : Apart A n ps) (hg : Gang n (intL l)) (hs : spanB a c = true) (hv : v.okB = true) (hf : ∀ i, i < n → ∀ t, (fs i t).le (Ws i)) :
    Calls Try.prog 20 #[.pointer (some ⟨q, 0, none⟩), .slice A l.length cap, .int .i64 a, .int .i64 c, .agg #[.int .i64 v.a, .int .i64 v.b, .int .i64 v.c, .int .i64 v.d]] w fun e w' => e = .returned (.int .i64 0) ∧ PL w' q sv n ps Ws fs ∧ FrP w w' n ps := by
  have h0 := ggive_any q sv n ps Ws _ A cap (intL l) a c v w h hN (by rw [intL_len]; omega) (by rw [intL_len]; omega) hap hg hs hv
  rw [intL_len] at h0
  refine h0.mono ?_
  rintro e w' (⟨rfl, ⟨i, hi, t, t1, t2, h1⟩, hp, hw⟩ | ⟨rfl, _, hp, hf⟩)
  · refine absurd ?_ h1
    have hin : i < n := by
      obtain ⟨j, hj⟩ := List.getElem?_of_mem hi
      have := hg.2.1 j _ hj
      omega
    have e0 := fsT_mem (fs := fs) (a := a) (c := c) (v := v) hi
    rw [intL_len] at e0
    rw [e0, chF_in t1 t2, V4.add_sub]
    exact hf i hin t
  · have e0 := fsG_back_all (fs := fs) (xs := intL l) (a := a) (c := c) (v := v)
    rw [intL_len] at e0
    rw [intL_len, e0] at hp
    exact ⟨rfl, hp, hf⟩
theorem PL.facts {w : World} {q : Nat} {sv : Value} {n : Nat} {ps : Nat → Nat} {Ws : Nat → V4} {fs : Nat → Int → V4} (h : PL w q sv n ps Ws fs) {i : Nat} (hi : i < n) : (∀ t, (fs i t).le (Ws i)) ∧ (∀ t, (fs i t).ok) ∧ (Ws i).ok := by
  obtain ⟨h1, _, h3, h4⟩ := (h.p i hi).facts
  exact ⟨h1, h3, h4⟩
theorem belowA {wr w4 : World} {o : Obj} (hb : Below (wr.alloc o).heap.size (wr.alloc o) w4) : Below wr.heap.size wr w4 :=
  ((Below.refl _ _).alloc (Nat.le_refl _) o).trans (hb.mono (by simp))
end Go.Proofs.Ythkofnahimlijaa
