/- What a change of a profile does to its steps: plain mathematics, and a row that is put together step by step in memory. Conditions: none. -/
import Derived.Test.YthkofnahimlijaaJoin
namespace Go.Proofs.Ythkofnahimlijaa
open Go Go.RowKit
theorem Rp.count {n : Nat} {T : Nat → Int} {V : Nat → V4} {e : Int} {f : Int → V4} (h : Rp n T V e f) : (n : Int) ≤ e := by
  have aux : ∀ k, k < n → (k : Int) ≤ T k := by
    intro k
    induction k with
    | zero => intro hk; rw [h.zero hk]; exact Int.le_refl _
    | succ k ih =>
      intro hk
      have := ih (by omega)
      have := h.up k hk
      omega
  rcases Nat.eq_zero_or_pos n with h0 | h0
  · subst h0
    exact h.nn
  · have := aux (n - 1) (by omega)
    have := h.lt (n - 1) (by omega)
    omega
theorem Rp.last {n : Nat} {T : Nat → Int} {V : Nat → V4} {e : Int} {f : Int → V4} (h : Rp n T V e f) (he : 0 < e) : f (e - 1) = V (n - 1) := by
  have hn := h.pos he
  have h1 := h.lt (n - 1) (by omega)
  exact h.fn (n - 1) (by omega) (e - 1) (by omega) (fun hl => by omega) (by omega)
/-- A row in memory that tells f up to e: somebody's beginning that is not written over, or the caller's own. -/
def Cur (B : Nat) (w : World) (v : Value) (e : Int) (f : Int → V4) : Prop := ∃ (o : Option Nat) (b c m : Nat) (T : Nat → Int) (V : Nat → V4), v = .slice (some ⟨b, 0, none⟩) m c ∧ Sl w b m T V ∧ m ≤ c ∧ Ow w o b c m ∧ Rp m T V e f ∧ (o = none ∨ ∃ g, o = some g ∧ B ≤ g)
theorem Cur.keep {B : Nat} {w w' : World} {v : Value} {e : Int} {f : Int → V4} (h : Cur B w v e f) (hb : Below w.heap.size w w') : Cur B w' v e f := by
  obtain ⟨o, b, c, m, T, V, h1, h2, h3, h4, h5, h6⟩ := h
  exact ⟨o, b, c, m, T, V, h1, h2.keep hb, h3, h4.keep hb, h5, h6⟩
def JC (B : Nat) (w : World) (e : Int) (f : Int → V4) (en : Ending) (w' : World) : Prop := ∃ v', en = .returned v' ∧ Cur B w' v' e f ∧ Below B w w'
theorem Cur.of_grown {B : Nat} {w w' : World} {o : Option Nat} {v : Value} {n : Nat} {T : Nat → Int} {V : Nat → V4} {e : Int} {f : Int → V4} (h : Grown w w' o v n T V) (ho : o = none ∨ ∃ g, o = some g ∧ B ≤ g) (hB : B ≤ w.heap.size) (hR : Rp n T V e f) : Cur B w' v e f ∧ Below B w w' := by
  obtain ⟨o', b, c, h1, h2, h3, h4, h5, h6⟩ := h
  refine ⟨⟨o', b, c, n, T, V, h1, h2, h3, h4, hR, ?_⟩, ⟨h5.os, h5.tape, h5.output, h5.size, fun k hk => h5.block k (by omega) (fun hn => ?_)⟩⟩
  · rcases h6 with rfl | ⟨k, rfl, hk⟩
    · exact ho
    · exact .inr ⟨k, rfl, by omega⟩
  · rcases ho with rfl | ⟨g, rfl, hg⟩
    · cases hn
    · cases hn
      omega
theorem join_cur {B : Nat} {w : World} {v : Value} {e e' : Int} {f : Int → V4} {x : V4} (h : Cur B w v e f) (hB : B ≤ w.heap.size) (he : e < e') (he2 : e' ≤ 1099511627777) (hf : ∀ t, e ≤ t → t < e' → f t = x) :
    Calls Try.prog 80 #[v, .agg #[.int .i64 e, .int .i64 x.a, .int .i64 x.b, .int .i64 x.c, .int .i64 x.d]] w (JC B w e' f) := by
  obtain ⟨o, b, c, m, T, V, rfl, h2, h3, h4, h5, h6⟩ := h
  have hc := h5.count
  refine (join_any o b c m T V e x w h2 h3 h4 (by omega)).mono ?_
  rintro en w' ⟨v', rfl, hG⟩
  have := Cur.of_grown hG h6 hB (h5.join he hf)
  exact ⟨v', rfl, this.1, this.2⟩
/-- A step whose amount is the last one's changes nothing. -/
theorem join_same {B : Nat} {w : World} {v : Value} {e e' tt : Int} {f : Int → V4} {x : V4} (h : Cur B w v e f) (hB : B ≤ w.heap.size) (h0 : 0 < e) (hx : f (e - 1) = x) (he : e ≤ e') (he1 : e ≤ 1099511627777) (hf : ∀ t, e ≤ t → t < e' → f t = x) :
    Calls Try.prog 80 #[v, .agg #[.int .i64 tt, .int .i64 x.a, .int .i64 x.b, .int .i64 x.c, .int .i64 x.d]] w (JC B w e' f) := by
  obtain ⟨o, b, c, m, T, V, rfl, h2, h3, h4, h5, h6⟩ := h
  have hc := h5.count
  have hm := h5.pos h0
  have hl := h5.last h0
  refine (join_any o b c m T V tt x w h2 h3 h4 (by omega)).mono ?_
  rintro en w' ⟨v', rfl, hG⟩
  rw [jn_same hm (by rw [← hl, hx])] at hG
  have hR : Rp m (upd T m tt) (upd V m x) e' f := (h5.extend hm he (fun t t1 t2 => by rw [hf t t1 t2, ← hx, hl])).congr (fun i hi => upd_lt _ _ hi) (fun i hi => upd_lt _ _ hi)
  have := Cur.of_grown hG h6 hB hR
  exact ⟨v', rfl, this.1, this.2⟩
/-- What is free behind a change. -/
def chF (f : Int → V4) (a c : Int) (g : V4 → V4) : Int → V4 := fun t => if a ≤ t ∧ t < c then g (f t) else f t
theorem chF_in {f : Int → V4} {a c : Int} {g : V4 → V4} {t : Int} (h1 : a ≤ t) (h2 : t < c) : chF f a c g t = g (f t) := if_pos ⟨h1, h2⟩
theorem chF_out {f : Int → V4} {a c : Int} {g : V4 → V4} {t : Int} (h : t < a ∨ c ≤ t) : chF f a c g t = f t := if_neg (by omega)
/-- Where the row that is put together ends, ahead of the k-th step within the span. -/
def eK (T : Nat → Int) (i j : Nat) (a c : Int) (k : Nat) : Int := if i + k ≤ j then max (T (i + k)) a else c
theorem eK_in {T : Nat → Int} {i j : Nat} {a c : Int} {k : Nat} (h : i + k ≤ j) : eK T i j a c k = max (T (i + k)) a := if_pos h
theorem eK_out {T : Nat → Int} {i j : Nat} {a c : Int} {k : Nat} (h : ¬ i + k ≤ j) : eK T i j a c k = c := if_neg h
section
variable {n : Nat} {T : Nat → Int} {V : Nat → V4} {f : Int → V4} {a c : Int} {i j : Nat}
theorem eK_step (hR : Rp n T V 1099511627777 f) (hj : j < n) (hi2 : i + 1 < n → a < T (i + 1)) (hj1 : T j ≤ c - 1) (hj2 : j + 1 < n → c - 1 < T (j + 1)) (hac : a < c) (hc : c ≤ 1099511627776) {k : Nat} (hk : i + k ≤ j) :
    max (T (i + k)) a < eK T i j a c (k + 1) ∧ eK T i j a c (k + 1) ≤ c ∧ ∀ t, max (T (i + k)) a ≤ t → t < eK T i j a c (k + 1) → a ≤ t ∧ t < c ∧ f t = V (i + k) := by
  by_cases h : i + (k + 1) ≤ j
  · rw [eK_in h, show i + (k + 1) = i + k + 1 by omega]
    have h1 := hR.up (i + k) (by omega)
    have h2 := hR.le (i := i + 1) (j := i + k + 1) (by omega) (by omega)
    have h3 := hi2 (by omega)
    have h4 := hR.le (i := i + k + 1) (j := j) (by omega) hj
    refine ⟨by omega, by omega, fun t t1 t2 => ⟨by omega, by omega, ?_⟩⟩
    exact hR.fn (i + k) (by omega) t (by omega) (fun _ => by omega) (by omega)
  · have e : i + k = j := by omega
    rw [eK_out h, e]
    refine ⟨by omega, Int.le_refl _, fun t t1 t2 => ⟨by omega, by omega, ?_⟩⟩
    exact hR.fn j hj t (by omega) (fun hl => by have := hj2 hl; omega) (by omega)
/-- Where it ends ahead of the k-th step behind the span. -/
def eN (T : Nat → Int) (n j k : Nat) : Int := if j + 1 + k < n then T (j + 1 + k) else 1099511627777
/-- What is known of a row ahead of the k-th step behind the span. -/
def Beh (T : Nat → Int) (V : Nat → V4) (n j : Nat) (c : Int) (f' : Int → V4) (k : Nat) (e : Int) : Prop := c < e ∧ e ≤ 1099511627777 ∧ (eN T n j k = e ∨ (j + 1 + k < n ∧ T (j + 1 + k) < e ∧ f' (e - 1) = V (j + 1 + k) ∧ e ≤ eN T n j (k + 1)))
theorem eN_up (hR : Rp n T V 1099511627777 f) {k : Nat} (hk : j + 1 + k < n) : T (j + 1 + k) < eN T n j (k + 1) ∧ eN T n j (k + 1) ≤ 1099511627777 ∧ ∀ t, T (j + 1 + k) ≤ t → t < eN T n j (k + 1) → f t = V (j + 1 + k) := by
  unfold eN
  by_cases h : j + 1 + (k + 1) < n
  · rw [if_pos h, show j + 1 + (k + 1) = j + 1 + k + 1 by omega]
    have h1 := hR.up (j + 1 + k) (by omega)
    have h2 := hR.lt (j + 1 + k + 1) (by omega)
    exact ⟨h1, by omega, fun t t1 t2 => hR.fn _ hk t t1 (fun _ => t2) (by omega)⟩
  · rw [if_neg h]
    have h2 := hR.lt (j + 1 + k) hk
    exact ⟨h2, Int.le_refl _, fun t t1 t2 => hR.fn _ hk t t1 (fun hl => by omega) t2⟩
theorem beh_start (hR : Rp n T V 1099511627777 f) (hj : j < n) (hj1 : T j ≤ c - 1) (hj2 : j + 1 < n → c - 1 < T (j + 1)) (hc : c ≤ 1099511627776) {g : V4 → V4} : ∃ e, c < e ∧ e ≤ 1099511627777 ∧ (∀ t, c ≤ t → t < e → chF f a c g t = f c) ∧ Beh T V n j c (chF f a c g) 0 e := by
  by_cases h : j + 1 < n
  · have h0 : eN T n j 0 = T (j + 1) := by unfold eN; rw [Nat.add_zero, if_pos h]
    have h3 := hj2 h
    have h4 := hR.lt (j + 1) h
    by_cases h1 : T (j + 1) = c
    · have hu := eN_up (j := j) (k := 0) hR h
      rw [Nat.add_zero, h1] at hu
      refine ⟨c + 1, by omega, by omega, fun t t1 t2 => ?_, by omega, by omega, .inr ⟨h, by rw [Nat.add_zero, h1]; omega, ?_, by omega⟩⟩
      · obtain rfl : t = c := by omega
        rw [chF_out (.inr (Int.le_refl _))]
      · rw [show c + 1 - 1 = c by omega, chF_out (.inr (Int.le_refl _)), Nat.add_zero]
        exact hR.fn (j + 1) h c (by omega) (fun hl => by have := hR.up (j + 1) hl; omega) (by omega)
    · refine ⟨T (j + 1), by omega, by omega, fun t t1 t2 => ?_, by omega, by omega, .inl h0⟩
      rw [chF_out (.inr t1), hR.fn j hj t (by omega) (fun _ => t2) (by omega), hR.fn j hj c (by omega) (fun _ => by omega) (by omega)]
  · have h0 : eN T n j 0 = 1099511627777 := by unfold eN; rw [Nat.add_zero, if_neg h]
    refine ⟨1099511627777, by omega, Int.le_refl _, fun t t1 t2 => ?_, by omega, Int.le_refl _, .inl h0⟩
    rw [chF_out (.inr t1), hR.fn j hj t (by omega) (fun hl => absurd hl h) (by omega), hR.fn j hj c (by omega) (fun hl => absurd hl h) (by omega)]
theorem beh_end {k : Nat} {e : Int} {f' : Int → V4} (h : Beh T V n j c f' k e) (hk : ¬ j + 1 + k < n) : e = 1099511627777 := by
  rcases h.2.2 with h1 | ⟨h1, _⟩
  · unfold eN at h1
    rw [if_neg hk] at h1
    exact h1.symm
  · exact absurd h1 hk
theorem beh_next (hR : Rp n T V 1099511627777 f) {f' : Int → V4} {k : Nat} {e : Int} (h : Beh T V n j c f' k e) (hk : j + 1 + k < n) : Beh T V n j c f' (k + 1) (eN T n j (k + 1)) := by
  obtain ⟨u1, u2, u3⟩ := eN_up hR hk
  obtain ⟨h1, h2, h3⟩ := h
  rcases h3 with h3 | ⟨_, h4, h5, h6⟩
  · have h0 : eN T n j k = T (j + 1 + k) := if_pos hk
    exact ⟨by omega, u2, .inl rfl⟩
  · exact ⟨by omega, u2, .inl rfl⟩
/-- Each step behind the span is put behind the row. -/
theorem join_beh (hR : Rp n T V 1099511627777 f) (hca : 0 ≤ c) {g : V4 → V4} {k : Nat} {e : Int} {B : Nat} {w : World} {v : Value} (h : Beh T V n j c (chF f a c g) k e) (hk : j + 1 + k < n) (hC : Cur B w v e (chF f a c g)) (hB : B ≤ w.heap.size) :
    Calls Try.prog 80 #[v, .agg #[.int .i64 (T (j + 1 + k)), .int .i64 (V (j + 1 + k)).a, .int .i64 (V (j + 1 + k)).b, .int .i64 (V (j + 1 + k)).c, .int .i64 (V (j + 1 + k)).d]] w (JC B w (eN T n j (k + 1)) (chF f a c g)) := by
  obtain ⟨u1, u2, u3⟩ := eN_up hR hk
  obtain ⟨h1, h2, h3⟩ := h
  rcases h3 with h3 | ⟨_, h4, h5, h6⟩
  · have h0 : eN T n j k = T (j + 1 + k) := if_pos hk
    rw [h0] at h3
    subst h3
    exact join_cur hC hB u1 u2 (fun t t1 t2 => by rw [chF_out (.inr (by omega)), u3 t t1 t2])
  · exact join_same hC hB (by omega) h5 h6 h2 (fun t t1 t2 => by rw [chF_out (.inr (by omega)), u3 t (by omega) t2])
end
end Go.Proofs.Ythkofnahimlijaa
