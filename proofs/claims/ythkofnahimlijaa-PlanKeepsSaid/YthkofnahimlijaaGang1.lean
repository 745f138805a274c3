/- A pool in memory: nodes' profiles; how its functions has, span, gang answer. Conditions: the pool stands in memory. -/
import Derived.Test.YthkofnahimlijaaProf9
namespace Go.Proofs.Ythkofnahimlijaa
open Go Go.RowKit
/-- The cells of a row of pointers. -/
def ptrs (n : Nat) (ps : Nat → Nat) : List Value := (List.range n).map fun i => .pointer (some ⟨ps i, 0, none⟩)
theorem ptrs_len (n : Nat) (ps : Nat → Nat) : (ptrs n ps).length = n := by simp [ptrs]
theorem ptrs_at {n i : Nat} (ps : Nat → Nat) (h : i < n) : (ptrs n ps)[i]? = some (.pointer (some ⟨ps i, 0, none⟩)) := by
  unfold ptrs
  rw [List.getElem?_map, List.getElem?_range h]
  rfl
theorem ptrs_succ (n : Nat) (ps : Nat → Nat) : ptrs (n + 1) ps = ptrs n ps ++ [.pointer (some ⟨ps n, 0, none⟩)] := by
  unfold ptrs
  rw [List.range_succ, List.map_append]
  rfl
/-- A pool at block q whose row of nodes is sv: n profiles, each at a block of its own. -/
structure PL (w : World) (q : Nat) (sv : Value) (n : Nat) (ps : Nat → Nat) (Ws : Nat → V4) (fs : Nat → Int → V4) : Prop where
  h : w.heap[q]? = some (.cells #[sv] 80 (0, 0))
  r : w.ownsRow 0 81 1 sv n (ptrs n ps)
  p : ∀ i, i < n → Pr w (ps i) (Ws i) (fs i)
  d : ∀ i j, i < n → j < n → ps i = ps j → i = j
  m : n ≤ 16
theorem own_keep {w w' : World} {base : Nat} {e : TypeId} {size : Nat} {v : Value} {n : Nat} {xs : List Value} (h : w.ownsRow base e size v n xs) (hb : ∀ g o, v = .slice (some ⟨g, 0, none⟩) n o → ∀ cs, w.heap[g]? = some cs → w'.heap[g]? = some cs) : w'.ownsRow base e size v n xs := by
  obtain ⟨h1, h2 | ⟨g, cap, cur, rfl, h3, h4, h5⟩⟩ := h
  · exact ⟨h1, .inl h2⟩
  · exact ⟨h1, .inr ⟨g, cap, cur, rfl, h3, hb g cap rfl _ h4, h5⟩⟩
theorem PL.keep {w w' : World} {q : Nat} {sv : Value} {n : Nat} {ps : Nat → Nat} {Ws : Nat → V4} {fs : Nat → Int → V4} (h : PL w q sv n ps Ws fs) (hb : Below w.heap.size w w') : PL w' q sv n ps Ws fs :=
  ⟨keep0 hb h.h, own_keep h.r (fun _ _ _ _ hc => keep0 hb hc), fun i hi => (h.p i hi).keep hb, h.d, h.m⟩
theorem Pr.type {w : World} {p : Nat} {W : V4} {f : Int → V4} (h : Pr w p W f) : ∃ cs, w.heap[p]? = some (.cells cs 108 (0, 0)) := by
  obtain ⟨b, cap, n, T, V, h1, _⟩ := h
  exact ⟨_, h1.h⟩
/-- Another profile than the one that was changed stays. -/
theorem Pr.other {w w' : World} {p p' : Nat} {W W' : V4} {f f' : Int → V4} (h : Pr w p W f) (h' : Pr w p' W' f') (hne : p ≠ p') (hb : w.grownBy w' (some p')) : Pr w' p W f := by
  obtain ⟨cs, hcs⟩ := h'.type
  obtain ⟨b, cap, n, T, V, h1, h2⟩ := h
  refine ⟨b, cap, n, T, V, h1.gb hb (by simp; omega) (fun e => ?_), h2⟩
  cases e
  obtain ⟨cs', fr, h3, _⟩ := h1.s
  rw [hcs] at h3
  simp at h3
def setF {α : Type} (f : Nat → α) (i : Nat) (x : α) : Nat → α := fun j => if j = i then x else f j
/-- One of the profiles was changed. -/
theorem PL.put {w w' : World} {q : Nat} {sv : Value} {n : Nat} {ps : Nat → Nat} {Ws : Nat → V4} {fs : Nat → Int → V4} {i : Nat} {g : Int → V4} (h : PL w q sv n ps Ws fs) (hi : i < n) (hp : Pr w' (ps i) (Ws i) g) (hb : w.grownBy w' (some (ps i))) : PL w' q sv n ps Ws (setF fs i g) := by
  obtain ⟨cs, hcs⟩ := (h.p i hi).type
  refine ⟨gb_keep hb h.h (fun e => ?_), own_keep h.r (fun k o hk c hc => gb_keep hb hc (fun e => ?_)), fun j hj => ?_, h.d, h.m⟩
  · cases e
    rw [h.h] at hcs
    simp at hcs
  · cases e
    obtain ⟨_, ⟨e2, _⟩ | ⟨k2, cap2, cur2, e2, _, h4, _⟩⟩ := h.r
    · rw [hk] at e2
      cases e2
    · rw [hk] at e2
      simp only [Value.slice.injEq, Option.some.injEq, Addr.mk.injEq] at e2
      obtain ⟨⟨rfl, _⟩, _⟩ := e2
      rw [hcs] at h4
      simp at h4
  · unfold setF
    by_cases hji : j = i
    · subst hji
      rw [if_pos rfl]
      exact hp
    · rw [if_neg hji]
      exact (h.p j hj).other (h.p i hi) (fun e => hji (h.d j i hj hi e)) hb
theorem PL.cell {w : World} {q : Nat} {sv : Value} {n : Nat} {ps : Nat → Nat} {Ws : Nat → V4} {fs : Nat → Int → V4} (h : PL w q sv n ps Ws fs) : w.cell? ⟨q, 0, none⟩ = some sv := one h.h
/-- The row of nodes, where there is one. -/
theorem PL.row {w : World} {q : Nat} {sv : Value} {n : Nat} {ps : Nat → Nat} {Ws : Nat → V4} {fs : Nat → Int → V4} (h : PL w q sv n ps Ws fs) (hn : 0 < n) : ∃ g cap, sv = .slice (some ⟨g, 0, none⟩) n cap ∧ n ≤ cap ∧ g < w.heap.size ∧ ∀ i, i < n → w.cell? ⟨g, i, none⟩ = some (.pointer (some ⟨ps i, 0, none⟩)) := by
  have hr := h.r
  obtain ⟨_, ⟨_, h0⟩ | ⟨g, cap, cur, rfl, _, h4, h5, _⟩⟩ := hr
  · omega
  · refine ⟨g, cap, rfl, h5, lt_of h4, fun i hi => ?_⟩
    have := h.r.cells (g := g) rfl i _ (ptrs_at ps hi)
    rwa [show (⟨g, 0, none⟩ : Addr).add i = ⟨g, i, none⟩ by unfold Addr.add; split <;> simp_all] at this
theorem PL.val {w : World} {q : Nat} {sv : Value} {n : Nat} {ps : Nat → Nat} {Ws : Nat → V4} {fs : Nat → Int → V4} (h : PL w q sv n ps Ws fs) : ∃ A cap, sv = .slice A n cap := by
  obtain ⟨_, ⟨e, h0⟩ | ⟨g, cap, cur, e, _⟩⟩ := h.r
  · exact ⟨none, 0, by rw [e, h0]⟩
  · exact ⟨_, _, e⟩
def hasB (n : Nat) (i : Int) : Bool := decide (0 ≤ i ∧ i < (n : Int))
theorem has_any (q : Nat) (sv : Value) (n : Nat) (ps : Nat → Nat) (Ws : Nat → V4) (fs : Nat → Int → V4) (i : Int) (w : World) (h : PL w q sv n ps Ws fs) : Calls Try.prog 55 #[.pointer (some ⟨q, 0, none⟩), .int .i64 i] w fun e w' => e = .returned (.bool (hasB n i)) ∧ w = w' := by
  obtain ⟨A, cap, rfl⟩ := h.val
  have c0 := h.cell
  clear h
  go_enter Try.func55, Try.ntmps55
  go_wp2
  all_goals go_returns
  all_goals exact ⟨ret_bool (by rw [Bool.eq_iff_iff]; simp [hasB]; try omega), rfl⟩
theorem has_nil (i : Int) (w : World) : Calls Try.prog 55 #[.pointer none, .int .i64 i] w fun e w' => e = .returned (.bool false) ∧ w = w' := by
  go_enter Try.func55, Try.ntmps55
  go_wp2
  all_goals go_returns
  all_goals exact ⟨rfl, rfl⟩
theorem gspan_any (f t : Int) (w : World) : Calls Try.prog 33 #[.int .i64 f, .int .i64 t] w fun e w' => e = .returned (.bool (spanB f t)) ∧ w = w' := by
  go_enter Try.func33, Try.ntmps33
  go_wp2
  all_goals go_returns
  all_goals exact ⟨ret_bool (by rw [Bool.eq_iff_iff]; simp [spanB]; try omega), rfl⟩
/-- Numbers that lie in memory. -/
def Ns (w : World) (A : Option Addr) (xs : List Int) : Prop := xs = [] ∨ ∃ b off, A = some ⟨b, off, none⟩ ∧ b < w.heap.size ∧ ∀ (i : Nat) x, xs[i]? = some x → w.cell? ⟨b, off + i, none⟩ = some (.int .i64 x)
theorem Ns.keep {w w' : World} {A : Option Addr} {xs : List Int} (h : Ns w A xs) (hb : Below w.heap.size w w') : Ns w' A xs := by
  rcases h with e | ⟨b, off, rfl, hlt, hc⟩
  · exact .inl e
  · exact .inr ⟨b, off, rfl, Nat.lt_of_lt_of_le hlt hb.size, fun i x hx => by rw [hb.cell (p := ⟨b, off + i, none⟩) hlt]; exact hc i x hx⟩
/-- Are these a gang: of the pool, rising, one at least? -/
def Gang (n : Nat) (xs : List Int) : Prop := xs ≠ [] ∧ (∀ (i : Nat) x, xs[i]? = some x → 0 ≤ x ∧ x < (n : Int)) ∧ (∀ (i : Nat) x y, xs[i]? = some x → xs[i + 1]? = some y → x < y)
end Go.Proofs.Ythkofnahimlijaa
