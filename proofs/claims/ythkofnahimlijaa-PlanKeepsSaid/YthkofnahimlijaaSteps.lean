/- Amounts of four numbers; what is free from tick to tick as a row of steps: a row is grown step by step, cut, held against another one. Plain mathematics. Conditions: none. -/
import Derived.Handy
namespace Go.Proofs.Ythkofnahimlijaa
structure V4 where
  a : Int
  b : Int
  c : Int
  d : Int
def V4.eqB (x y : V4) : Bool := x.a == y.a && (x.b == y.b && (x.c == y.c && x.d == y.d))
theorem V4.eqB_iff (x y : V4) : x.eqB y = true ↔ x = y := by
  obtain ⟨a, b, c, d⟩ := x
  obtain ⟨a', b', c', d'⟩ := y
  simp [V4.eqB]
theorem V4.eqB_false {x y : V4} : x.eqB y = false ↔ x ≠ y := by
  rw [Ne, ← V4.eqB_iff]
  simp
instance : DecidableEq V4 := fun x y => decidable_of_iff (x.eqB y = true) (V4.eqB_iff x y)
def V4.le (x y : V4) : Prop := x.a ≤ y.a ∧ x.b ≤ y.b ∧ x.c ≤ y.c ∧ x.d ≤ y.d
def V4.leB (x y : V4) : Bool := decide (x.a ≤ y.a ∧ x.b ≤ y.b ∧ x.c ≤ y.c ∧ x.d ≤ y.d)
theorem V4.leB_iff (x y : V4) : x.leB y = true ↔ x.le y := by simp [V4.leB, V4.le]
def V4.ok (x : V4) : Prop := (0 ≤ x.a ∧ x.a ≤ 1073741824) ∧ (0 ≤ x.b ∧ x.b ≤ 1073741824) ∧ (0 ≤ x.c ∧ x.c ≤ 1073741824) ∧ (0 ≤ x.d ∧ x.d ≤ 1073741824)
def V4.okB (x : V4) : Bool := decide ((0 ≤ x.a ∧ x.a ≤ 1073741824) ∧ (0 ≤ x.b ∧ x.b ≤ 1073741824) ∧ (0 ≤ x.c ∧ x.c ≤ 1073741824) ∧ (0 ≤ x.d ∧ x.d ≤ 1073741824))
theorem V4.okB_iff (x : V4) : x.okB = true ↔ x.ok := by simp [V4.okB, V4.ok]
def V4.z : V4 := ⟨0, 0, 0, 0⟩
def V4.add (x y : V4) : V4 := ⟨x.a + y.a, x.b + y.b, x.c + y.c, x.d + y.d⟩
def V4.sub (x y : V4) : V4 := ⟨x.a - y.a, x.b - y.b, x.c - y.c, x.d - y.d⟩
/-- The less of both; of equals the first. -/
def V4.mn (x y : V4) : V4 := ⟨if y.a < x.a then y.a else x.a, if y.b < x.b then y.b else x.b, if y.c < x.c then y.c else x.c, if y.d < x.d then y.d else x.d⟩
theorem V4.le_refl (x : V4) : x.le x := ⟨Int.le_refl _, Int.le_refl _, Int.le_refl _, Int.le_refl _⟩
theorem V4.le_trans {x y z : V4} (h : x.le y) (k : y.le z) : x.le z :=
  ⟨Int.le_trans h.1 k.1, Int.le_trans h.2.1 k.2.1, Int.le_trans h.2.2.1 k.2.2.1, Int.le_trans h.2.2.2 k.2.2.2⟩
theorem V4.le_mn (x y z : V4) : x.le (y.mn z) ↔ x.le y ∧ x.le z := by
  unfold V4.le V4.mn
  constructor
  · rintro ⟨h1, h2, h3, h4⟩
    simp only at h1 h2 h3 h4
    refine ⟨⟨?_, ?_, ?_, ?_⟩, ⟨?_, ?_, ?_, ?_⟩⟩ <;> omega
  · rintro ⟨⟨h1, h2, h3, h4⟩, ⟨k1, k2, k3, k4⟩⟩
    refine ⟨?_, ?_, ?_, ?_⟩ <;> simp only <;> omega
theorem V4.mn_le (y z : V4) : (y.mn z).le y ∧ (y.mn z).le z := (V4.le_mn _ y z).1 (V4.le_refl _)
theorem V4.mn_self {y z : V4} (h : y.le z) : y.mn z = y := by
  obtain ⟨h1, h2, h3, h4⟩ := h
  obtain ⟨a, b, c, d⟩ := y
  simp only at h1 h2 h3 h4
  unfold V4.mn
  simp only [V4.mk.injEq]
  refine ⟨?_, ?_, ?_, ?_⟩ <;> omega
theorem V4.add_sub (x y : V4) : (x.sub y).add y = x := by
  obtain ⟨a, b, c, d⟩ := x
  simp only [V4.sub, V4.add, V4.mk.injEq]
  omega
theorem V4.sub_ok {x y : V4} (hx : x.ok) (hy : y.ok) : (x.sub y).ok ↔ y.le x := by
  unfold V4.ok at *
  unfold V4.sub V4.le
  simp only
  omega
theorem V4.add_ok {x y z : V4} (hx : x.ok) (hy : y.ok) (hz : z.ok) : ((x.add y).ok ∧ (x.add y).le z) ↔ (x.add y).le z := by
  unfold V4.ok at *
  unfold V4.add V4.le
  simp only
  omega
theorem V4.sub_le {x y z : V4} (hx : x.le z) (hy : y.ok) : (x.sub y).le z := by
  unfold V4.ok at *
  unfold V4.sub V4.le at *
  simp only
  omega
theorem V4.le_add {x y : V4} (hy : y.ok) : x.le (x.add y) := by
  unfold V4.ok at *
  unfold V4.add V4.le at *
  simp only
  omega
def upd {α : Type} (f : Nat → α) (n : Nat) (x : α) : Nat → α := fun j => if j = n then x else f j
theorem upd_same {α : Type} (f : Nat → α) (n : Nat) (x : α) : upd f n x n = x := by simp [upd]
theorem upd_lt {α : Type} (f : Nat → α) {n j : Nat} (x : α) (h : j < n) : upd f n x j = f j := by
  have : j ≠ n := by omega
  simp [upd, this]
/-- The first n of the steps (T i, V i) tell f on the ticks from 0 to below e. -/
structure Rp (n : Nat) (T : Nat → Int) (V : Nat → V4) (e : Int) (f : Int → V4) : Prop where
  nn : 0 ≤ e
  pos : 0 < e → 0 < n
  zero : 0 < n → T 0 = 0
  up : ∀ i, i + 1 < n → T i < T (i + 1)
  lt : ∀ i, i < n → T i < e
  ne : ∀ i, i + 1 < n → V i ≠ V (i + 1)
  fn : ∀ i, i < n → ∀ t, T i ≤ t → (i + 1 < n → t < T (i + 1)) → t < e → f t = V i
theorem Rp.congr {n : Nat} {T T' : Nat → Int} {V V' : Nat → V4} {e : Int} {f : Int → V4} (h : Rp n T V e f) (hT : ∀ i, i < n → T' i = T i) (hV : ∀ i, i < n → V' i = V i) : Rp n T' V' e f := by
  refine ⟨h.nn, h.pos, fun h0 => by rw [hT 0 h0, h.zero h0], fun i hi => ?_, fun i hi => by rw [hT i hi]; exact h.lt i hi, fun i hi => ?_, fun i hi t h1 h2 h3 => ?_⟩
  · rw [hT i (by omega), hT (i + 1) hi]; exact h.up i hi
  · rw [hV i (by omega), hV (i + 1) hi]; exact h.ne i hi
  · rw [hV i hi]
    rw [hT i hi] at h1
    exact h.fn i hi t h1 (fun hl => by have := h2 hl; rwa [hT (i + 1) hl] at this) h3
theorem Rp.mono {n : Nat} {T : Nat → Int} {V : Nat → V4} {e : Int} {f : Int → V4} (h : Rp n T V e f) : ∀ k i, i + k < n → T i ≤ T (i + k)
  | 0, _, _ => Int.le_refl _
  | k + 1, i, hi => by
    have h1 := Rp.mono h k i (by omega)
    have h2 := h.up (i + k) (by omega)
    rw [show i + (k + 1) = i + k + 1 by omega]
    omega
theorem Rp.le {n : Nat} {T : Nat → Int} {V : Nat → V4} {e : Int} {f : Int → V4} (h : Rp n T V e f) {i j : Nat} (hij : i ≤ j) (hj : j < n) : T i ≤ T j := by
  have := h.mono (j - i) i (by omega)
  rwa [show i + (j - i) = j by omega] at this
theorem Rp.ltt {n : Nat} {T : Nat → Int} {V : Nat → V4} {e : Int} {f : Int → V4} (h : Rp n T V e f) {i j : Nat} (hij : i < j) (hj : j < n) : T i < T j := by
  have h1 := h.up i (by omega)
  have h2 := h.le (i := i + 1) (j := j) (by omega) hj
  omega
/-- Further on, with the last step's amount. -/
theorem Rp.extend {n : Nat} {T : Nat → Int} {V : Nat → V4} {e e' : Int} {f : Int → V4} (h : Rp n T V e f) (hn : 0 < n) (he : e ≤ e') (hf : ∀ t, e ≤ t → t < e' → f t = V (n - 1)) : Rp n T V e' f := by
  refine ⟨by have := h.nn; omega, fun _ => hn, h.zero, h.up, fun i hi => by have := h.lt i hi; omega, h.ne, fun i hi t h1 h2 h3 => ?_⟩
  by_cases ht : t < e
  · exact h.fn i hi t h1 h2 ht
  · have hlast : i = n - 1 := by
      rcases Nat.lt_or_ge (i + 1) n with hl | hl
      · have := h2 hl
        have := h.lt (i + 1) hl
        omega
      · omega
    rw [hf t (by omega) h3, hlast]
def jn (n : Nat) (V : Nat → V4) (v : V4) : Nat := if 0 < n ∧ V (n - 1) = v then n else n + 1
theorem jn_same {n : Nat} {V : Nat → V4} {v : V4} (h : 0 < n) (hv : V (n - 1) = v) : jn n V v = n := if_pos ⟨h, hv⟩
theorem jn_more {n : Nat} {V : Nat → V4} {v : V4} (h : ¬ (0 < n ∧ V (n - 1) = v)) : jn n V v = n + 1 := if_neg h
theorem jn_pos (n : Nat) (V : Nat → V4) (v : V4) : 0 < jn n V v := by unfold jn; split <;> omega
theorem jn_le (n : Nat) (V : Nat → V4) (v : V4) : n ≤ jn n V v ∧ jn n V v ≤ n + 1 := by unfold jn; split <;> omega
theorem jn_last (n : Nat) (V : Nat → V4) (v : V4) : upd V n v (jn n V v - 1) = v := by
  by_cases h : 0 < n ∧ V (n - 1) = v
  · rw [jn_same h.1 h.2, upd_lt _ _ (by omega), h.2]
  · rw [jn_more h, Nat.add_sub_cancel, upd_same]
/-- One step more. -/
theorem Rp.join {n : Nat} {T : Nat → Int} {V : Nat → V4} {e e' : Int} {f : Int → V4} {v : V4} (h : Rp n T V e f) (he : e < e') (hf : ∀ t, e ≤ t → t < e' → f t = v) : Rp (jn n V v) (upd T n e) (upd V n v) e' f := by
  by_cases hj : 0 < n ∧ V (n - 1) = v
  · rw [jn_same hj.1 hj.2]
    exact (h.extend hj.1 (by omega) (fun t h1 h2 => by rw [hf t h1 h2, hj.2])).congr (fun i hi => upd_lt _ _ hi) (fun i hi => upd_lt _ _ hi)
  · rw [jn_more hj]
    refine ⟨by have := h.nn; omega, fun _ => by omega, fun _ => ?_, fun i hi => ?_, fun i hi => ?_, fun i hi => ?_, fun i hi t h1 h2 h3 => ?_⟩
    · rcases Nat.eq_zero_or_pos n with h0 | h0
      · subst h0
        rw [upd_same]
        have := h.nn
        rcases Int.lt_or_le 0 e with hp | hp
        · have := h.pos hp; omega
        · omega
      · rw [upd_lt _ _ h0, h.zero h0]
    · rcases Nat.lt_or_ge (i + 1) n with hl | hl
      · rw [upd_lt _ _ (by omega), upd_lt _ _ hl]; exact h.up i hl
      · have : i + 1 = n := by omega
        rw [upd_lt _ _ (by omega), this, upd_same]
        exact h.lt i (by omega)
    · rcases Nat.lt_or_ge i n with hl | hl
      · rw [upd_lt _ _ hl]; have := h.lt i hl; omega
      · have : i = n := by omega
        rw [this, upd_same]; exact he
    · rcases Nat.lt_or_ge (i + 1) n with hl | hl
      · rw [upd_lt _ _ (by omega), upd_lt _ _ hl]; exact h.ne i hl
      · have e1 : i + 1 = n := by omega
        rw [upd_lt _ _ (by omega), e1, upd_same]
        intro hv
        exact hj ⟨by omega, by rw [← hv]; congr 1; omega⟩
    · rcases Nat.lt_or_ge i n with hl | hl
      · rw [upd_lt _ _ hl]
        rw [upd_lt _ _ hl] at h1
        have hte : t < e := by
          have h2' := h2 (by omega)
          rcases Nat.lt_or_ge (i + 1) n with hl2 | hl2
          · rw [upd_lt _ _ hl2] at h2'
            have := h.lt (i + 1) hl2
            omega
          · have e1 : i + 1 = n := by omega
            rw [e1, upd_same] at h2'
            exact h2'
        refine h.fn i hl t h1 (fun hl2 => ?_) hte
        have h2' := h2 (by omega)
        rwa [upd_lt _ _ hl2] at h2'
      · have e1 : i = n := by omega
        subst e1
        rw [upd_same] at h1 ⊢
        exact hf t h1 h3
/-- The beginning of a row tells the beginning, of whatever is the same there. -/
theorem Rp.cut {n : Nat} {T : Nat → Int} {V : Nat → V4} {e : Int} {f : Int → V4} (h : Rp n T V e f) {k : Nat} {e' : Int} {f' : Int → V4} (hk : k ≤ n) (h0 : 0 ≤ e') (h1 : k = 0 → e' = 0) (h2 : 0 < k → T (k - 1) < e') (h3 : k < n → e' ≤ T k) (h4 : e' ≤ e) (hf : ∀ t, t < e' → f' t = f t) : Rp k T V e' f' := by
  refine ⟨h0, fun hp => ?_, fun hp => h.zero (by omega), fun i hi => h.up i (by omega), fun i hi => ?_, fun i hi => h.ne i (by omega), fun i hi t t1 t2 t3 => ?_⟩
  · rcases Nat.eq_zero_or_pos k with hz | hz
    · have := h1 hz; omega
    · exact hz
  · have := h.le (i := i) (j := k - 1) (by omega) (by omega)
    have := h2 (by omega)
    omega
  · rw [hf t t3]
    refine h.fn i (by omega) t t1 (fun hl => ?_) (by omega)
    rcases Nat.lt_or_ge (i + 1) k with hl2 | hl2
    · exact t2 hl2
    · have : i + 1 = k := by omega
      rw [this] at hl ⊢
      have := h3 hl
      omega
theorem Rp.anyT {n : Nat} {T : Nat → Int} {V : Nat → V4} {e : Int} {f : Int → V4} (h : Rp n T V e f) {t : Int} (t0 : 0 ≤ t) (t1 : t < e) : ∃ i, i < n ∧ T i ≤ t ∧ (i + 1 < n → t < T (i + 1)) := by
  have hn := h.pos (by omega)
  have aux : ∀ k, k < n → T k ≤ t → ∃ i, i < n ∧ T i ≤ t ∧ (i + 1 < n → t < T (i + 1)) := by
    intro k
    induction hd : n - k generalizing k with
    | zero => intro hk; omega
    | succ d ih =>
      intro hk hT
      by_cases hl : k + 1 < n
      · by_cases h2 : T (k + 1) ≤ t
        · exact ih (k + 1) (by omega) hl h2
        · exact ⟨k, hk, hT, fun _ => by omega⟩
      · exact ⟨k, hk, hT, fun h3 => absurd h3 hl⟩
  exact aux 0 hn (by rw [h.zero hn]; exact t0)
/-- Two rows that tell the same are the same. -/
theorem Rp.unique {n m : Nat} {T S : Nat → Int} {V U : Nat → V4} {e : Int} {f g : Int → V4} (h : Rp n T V e f) (k : Rp m S U e g) (hf : ∀ t, 0 ≤ t → t < e → f t = g t) : n = m ∧ ∀ i, i < n → T i = S i ∧ V i = U i := by
  -- as far as both go, they go alike
  have aux : ∀ i, i < n → i < m → T i = S i ∧ V i = U i := by
    intro i
    induction i with
    | zero =>
      intro hn hm
      have e1 : T 0 = 0 := h.zero hn
      have e2 : S 0 = 0 := k.zero hm
      have he := h.lt 0 hn
      refine ⟨by rw [e1, e2], ?_⟩
      rw [← h.fn 0 hn 0 (by omega) (fun hl => by have := h.up 0 hl; omega) (by omega), ← k.fn 0 hm 0 (by omega) (fun hl => by have := k.up 0 hl; omega) (by omega)]
      exact hf 0 (by omega) (by omega)
    | succ i ih =>
      intro hn hm
      obtain ⟨hT, hV⟩ := ih (by omega) (by omega)
      have p1 : 0 ≤ T i := by have := h.le (i := 0) (j := i) (by omega) (by omega); rw [h.zero (by omega)] at this; exact this
      have u1 := h.up i hn
      have u2 := k.up i hm
      have eT : T (i + 1) = S (i + 1) := by
        rcases Int.lt_trichotomy (T (i + 1)) (S (i + 1)) with hlt | heq | hgt
        · exfalso
          have a1 := h.fn (i + 1) hn (T (i + 1)) (by omega) (fun hl => h.up (i + 1) hl) (h.lt _ hn)
          have a2 := k.fn i (by omega) (T (i + 1)) (by omega) (fun _ => hlt) (h.lt _ hn)
          rw [hf _ (by omega) (h.lt _ hn), a2, ← hV] at a1
          exact h.ne i hn a1
        · exact heq
        · exfalso
          have a1 := k.fn (i + 1) hm (S (i + 1)) (by omega) (fun hl => k.up (i + 1) hl) (k.lt _ hm)
          have a2 := h.fn i (by omega) (S (i + 1)) (by omega) (fun _ => hgt) (k.lt _ hm)
          rw [← hf _ (by omega) (k.lt _ hm), a2, hV] at a1
          exact k.ne i hm a1
      refine ⟨eT, ?_⟩
      have a1 := h.fn (i + 1) hn (T (i + 1)) (by omega) (fun hl => h.up (i + 1) hl) (h.lt _ hn)
      have a2 := k.fn (i + 1) hm (S (i + 1)) (by omega) (fun hl => k.up (i + 1) hl) (k.lt _ hm)
      rw [← a1, ← a2, eT]
      exact hf _ (by omega) (k.lt _ hm)
  have hnm : n = m := by
    rcases Nat.lt_trichotomy n m with hlt | heq | hgt
    · exfalso
      rcases Nat.eq_zero_or_pos n with h0 | h0
      · have := k.lt 0 (by omega)
        have := k.zero (by omega)
        have := h.pos (by omega)
        omega
      · obtain ⟨hT, hV⟩ := aux (n - 1) (by omega) (by omega)
        have a0 : 0 ≤ S n := by have := k.le (i := 0) (j := n) (by omega) (by omega); rw [k.zero (by omega)] at this; exact this
        have a1 := k.fn n hlt (S n) (by omega) (fun hl => k.up n hl) (k.lt n hlt)
        have a3 := k.ltt (i := n - 1) (j := n) (by omega) hlt
        have a2 := h.fn (n - 1) (by omega) (S n) (by omega) (fun hl => by omega) (k.lt n hlt)
        rw [hf _ a0 (k.lt n hlt), a1, hV] at a2
        have := k.ne (n - 1) (by omega)
        rw [show n - 1 + 1 = n by omega] at this
        exact this a2.symm
    · exact heq
    · exfalso
      rcases Nat.eq_zero_or_pos m with h0 | h0
      · have := h.lt 0 (by omega)
        have := h.zero (by omega)
        have := k.pos (by omega)
        omega
      · obtain ⟨hT, hV⟩ := aux (m - 1) (by omega) (by omega)
        have a0 : 0 ≤ T m := by have := h.le (i := 0) (j := m) (by omega) (by omega); rw [h.zero (by omega)] at this; exact this
        have a1 := h.fn m hgt (T m) (by omega) (fun hl => h.up m hl) (h.lt m hgt)
        have a3 := h.ltt (i := m - 1) (j := m) (by omega) hgt
        have a2 := k.fn (m - 1) (by omega) (T m) (by omega) (fun hl => by omega) (h.lt m hgt)
        rw [← hf _ a0 (h.lt m hgt), a1, ← hV] at a2
        have := h.ne (m - 1) (by omega)
        rw [show m - 1 + 1 = m by omega] at this
        exact this a2.symm
  exact ⟨hnm, fun i hi => aux i hi (by omega)⟩
end Go.Proofs.Ythkofnahimlijaa
