/- A profile in memory; how its functions made, span and place answer. Conditions: the profile stands in memory, its steps rise. -/
import Derived.Test.YthkofnahimlijaaSums
import Derived.Test.YthkofnahimlijaaSteps
import Derived.Test.YthkofnahimlijaaShelf
import Derived.Laws.AppendOwn
import Derived.Deep.AppendLies
import Derived.Deep.DeepAppendRoom
import Derived.ArgAppend
import Derived.BigQuiet
import Derived.Deep.QuietTactic
namespace Go.Proofs.Ythkofnahimlijaa
open Go Go.RowKit
theorem heapD {w : World} {o : Obj} {k : Nat} (h : w.heap[k]? = some o) : w.drew.heap[k]? = some o := h
theorem gb_below {w w' : World} (h : Below w.heap.size w w') (o : Option Nat) : w.grownBy w' o := ⟨h.os, h.tape, h.output, h.size, fun k hk _ => h.block k hk⟩
theorem gb_none {w w' : World} (h : w.grownBy w' none) : Below w.heap.size w w' := ⟨h.os, h.tape, h.output, h.size, fun k hk => h.block k hk (by simp)⟩
theorem gb_keep {w w' : World} {o : Option Nat} {c : Obj} {k : Nat} (h : w.grownBy w' o) (hk : w.heap[k]? = some c) (hn : o ≠ some k) : w'.heap[k]? = some c := by
  rw [h.block k (lt_of hk) (fun e => hn e.symm), hk]
/-- The cells of the first n steps. -/
def srow : Nat → (Nat → Int) → (Nat → V4) → List Value
  | 0, _, _ => []
  | n + 1, T, V => srow n T V ++ [.int .i64 (T n), .int .i64 (V n).a, .int .i64 (V n).b, .int .i64 (V n).c, .int .i64 (V n).d]
theorem srow_len : ∀ (n : Nat) (T : Nat → Int) (V : Nat → V4), (srow n T V).length = n * 5
  | 0, _, _ => rfl
  | n + 1, T, V => by rw [srow, List.length_append, srow_len n T V]; simp; omega
theorem srow_congr : ∀ {n : Nat} {T T' : Nat → Int} {V V' : Nat → V4}, (∀ i, i < n → T' i = T i) → (∀ i, i < n → V' i = V i) → srow n T' V' = srow n T V
  | 0, _, _, _, _, _, _ => rfl
  | n + 1, T, T', V, V', hT, hV => by
    rw [srow, srow, srow_congr (n := n) (fun i hi => hT i (by omega)) (fun i hi => hV i (by omega)), hT n (by omega), hV n (by omega)]
theorem srow_take : ∀ {n k : Nat} (T : Nat → Int) (V : Nat → V4), k ≤ n → (srow n T V).take (k * 5) = srow k T V
  | 0, k, _, _, h => by have : k = 0 := by omega
                        subst this; rfl
  | n + 1, k, T, V, h => by
    rcases Nat.lt_or_ge k (n + 1) with hl | hl
    · rw [srow, List.take_append_of_le_length (by rw [srow_len]; omega)]
      exact srow_take T V (by omega)
    · have : k = n + 1 := by omega
      subst this
      exact List.take_of_length_le (by rw [srow_len]; exact Nat.le_refl _)
theorem srow_upd {n : Nat} {T : Nat → Int} {V : Nat → V4} {t : Int} {v : V4} : srow (n + 1) (upd T n t) (upd V n v) = srow n T V ++ [.int .i64 t, .int .i64 v.a, .int .i64 v.b, .int .i64 v.c, .int .i64 v.d] := by
  rw [srow, upd_same, upd_same, srow_congr (fun i hi => upd_lt T t hi) (fun i hi => upd_lt V v hi)]
theorem srow_oneCell : ∀ {n : Nat} {T : Nat → Int} {V : Nat → V4}, ∀ u ∈ srow n T V, u.oneCell' = true
  | 0, _, _, u, h => by simp [srow] at h
  | n + 1, T, V, u, h => by
    rw [srow, List.mem_append] at h
    rcases h with h | h
    · exact srow_oneCell u h
    · simp at h
      rcases h with rfl | rfl | rfl | rfl | rfl <;> rfl
theorem srow_at : ∀ {n i : Nat} (T : Nat → Int) (V : Nat → V4), i < n → (srow n T V)[i * 5]? = some (.int .i64 (T i)) ∧ (srow n T V)[i * 5 + 1]? = some (.int .i64 (V i).a) ∧ (srow n T V)[i * 5 + 2]? = some (.int .i64 (V i).b) ∧ (srow n T V)[i * 5 + 3]? = some (.int .i64 (V i).c) ∧ (srow n T V)[i * 5 + 4]? = some (.int .i64 (V i).d)
  | 0, i, _, _, h => by omega
  | n + 1, i, T, V, h => by
    rcases Nat.lt_or_ge i n with hl | hl
    · obtain ⟨h0, h1, h2, h3, h4⟩ := srow_at T V hl
      have hlen := srow_len n T V
      rw [srow]
      refine ⟨?_, ?_, ?_, ?_, ?_⟩
      · rw [List.getElem?_append_left (by omega)]; exact h0
      · rw [List.getElem?_append_left (by omega)]; exact h1
      · rw [List.getElem?_append_left (by omega)]; exact h2
      · rw [List.getElem?_append_left (by omega)]; exact h3
      · rw [List.getElem?_append_left (by omega)]; exact h4
    · have : i = n := by omega
      subst this
      have hlen := srow_len i T V
      rw [srow]
      refine ⟨?_, ?_, ?_, ?_, ?_⟩
      · rw [List.getElem?_append_right (by omega), hlen, show i * 5 - i * 5 = 0 by omega]; rfl
      · rw [List.getElem?_append_right (by omega), hlen, show i * 5 + 1 - i * 5 = 1 by omega]; rfl
      · rw [List.getElem?_append_right (by omega), hlen, show i * 5 + 2 - i * 5 = 2 by omega]; rfl
      · rw [List.getElem?_append_right (by omega), hlen, show i * 5 + 3 - i * 5 = 3 by omega]; rfl
      · rw [List.getElem?_append_right (by omega), hlen, show i * 5 + 4 - i * 5 = 4 by omega]; rfl
/-- Block b begins with n steps. -/
def Sl (w : World) (b n : Nat) (T : Nat → Int) (V : Nat → V4) : Prop := ∃ cs fr, w.heap[b]? = some (.cells cs 105 fr) ∧ cs.toList.take (n * 5) = srow n T V
theorem Sl.lt {w : World} {b n : Nat} {T : Nat → Int} {V : Nat → V4} (h : Sl w b n T V) : b < w.heap.size := by
  obtain ⟨_, _, h, _⟩ := h
  exact lt_of h
theorem Sl.of {w w' : World} {b n : Nat} {T : Nat → Int} {V : Nat → V4} (h : Sl w b n T V) (hb : w'.heap[b]? = w.heap[b]?) : Sl w' b n T V := by
  obtain ⟨cs, fr, h1, h2⟩ := h
  exact ⟨cs, fr, by rw [hb, h1], h2⟩
theorem Sl.keep {w w' : World} {b n : Nat} {T : Nat → Int} {V : Nat → V4} (h : Sl w b n T V) (hb : Below w.heap.size w w') : Sl w' b n T V := h.of (hb.block b h.lt)
theorem Sl.gb {w w' : World} {b n : Nat} {T : Nat → Int} {V : Nat → V4} {o : Option Nat} (h : Sl w b n T V) (hb : w.grownBy w' o) (hn : o ≠ some b) : Sl w' b n T V := h.of (hb.block b h.lt (fun e => hn e.symm))
theorem Sl.short {w : World} {b n k : Nat} {T : Nat → Int} {V : Nat → V4} (h : Sl w b n T V) (hk : k ≤ n) : Sl w b k T V := by
  obtain ⟨cs, fr, h1, h2⟩ := h
  refine ⟨cs, fr, h1, ?_⟩
  rw [← srow_take T V hk, ← h2, List.take_take, Nat.min_eq_left (Nat.mul_le_mul_right 5 hk)]
theorem Sl.congr {w : World} {b n : Nat} {T T' : Nat → Int} {V V' : Nat → V4} (h : Sl w b n T V) (hT : ∀ i, i < n → T' i = T i) (hV : ∀ i, i < n → V' i = V i) : Sl w b n T' V' := by
  obtain ⟨cs, fr, h1, h2⟩ := h
  exact ⟨cs, fr, h1, by rw [h2, srow_congr hT hV]⟩
theorem Sl.len {w : World} {b n : Nat} {T : Nat → Int} {V : Nat → V4} {cs : Array Value} {fr : Nat × Nat} (h : Sl w b n T V) (hc : w.heap[b]? = some (.cells cs 105 fr)) : n * 5 ≤ cs.size := by
  obtain ⟨cs', fr', h1, h2⟩ := h
  rw [hc] at h1
  obtain ⟨rfl, rfl⟩ : cs = cs' ∧ fr = fr' := by simpa using h1
  have := congrArg List.length h2
  rw [srow_len, List.length_take] at this
  simp at this
  omega
theorem Sl.cells {w : World} {b n : Nat} {T : Nat → Int} {V : Nat → V4} (h : Sl w b n T V) {i : Nat} (hi : i < n) : w.cell? ⟨b, i * 5, none⟩ = some (.int .i64 (T i)) ∧ w.cell? ⟨b, i * 5 + 1, none⟩ = some (.int .i64 (V i).a) ∧ w.cell? ⟨b, i * 5 + 2, none⟩ = some (.int .i64 (V i).b) ∧ w.cell? ⟨b, i * 5 + 3, none⟩ = some (.int .i64 (V i).c) ∧ w.cell? ⟨b, i * 5 + 4, none⟩ = some (.int .i64 (V i).d) := by
  obtain ⟨cs, fr, h1, h2⟩ := h
  have aux : ∀ j, j < n * 5 → w.cell? ⟨b, j, none⟩ = (srow n T V)[j]? := by
    intro j hj
    rw [← h2, List.getElem?_take_of_lt hj]
    simp [World.cell?, h1]
  obtain ⟨k0, k1, k2, k3, k4⟩ := srow_at T V hi
  refine ⟨?_, ?_, ?_, ?_, ?_⟩
  · rw [aux _ (by omega)]; exact k0
  · rw [aux _ (by omega)]; exact k1
  · rw [aux _ (by omega)]; exact k2
  · rw [aux _ (by omega)]; exact k3
  · rw [aux _ (by omega)]; exact k4
/-- A profile at block p, its steps in block b. -/
structure PV (w : World) (p b cap : Nat) (W : V4) (n : Nat) (T : Nat → Int) (V : Nat → V4) : Prop where
  h : w.heap[p]? = some (.cells #[.int .i64 W.a, .int .i64 W.b, .int .i64 W.c, .int .i64 W.d, .slice (some ⟨b, 0, none⟩) n cap] 108 (0, 0))
  s : Sl w b n T V
  c : n ≤ cap
  n0 : 0 < n
  nl : n ≤ 2199023255552
  ne : b ≠ p
theorem PV.keep {w w' : World} {p b cap : Nat} {W : V4} {n : Nat} {T : Nat → Int} {V : Nat → V4} (h : PV w p b cap W n T V) (hb : Below w.heap.size w w') : PV w' p b cap W n T V := ⟨keep0 hb h.h, h.s.keep hb, h.c, h.n0, h.nl, h.ne⟩
theorem PV.gb {w w' : World} {p b cap : Nat} {W : V4} {n : Nat} {T : Nat → Int} {V : Nat → V4} {o : Option Nat} (h : PV w p b cap W n T V) (hb : w.grownBy w' o) (h1 : o ≠ some p) (h2 : o ≠ some b) : PV w' p b cap W n T V := ⟨gb_keep hb h.h h1, h.s.gb hb h2, h.c, h.n0, h.nl, h.ne⟩
theorem five {w : World} {B : Nat} {a0 a1 a2 a3 a4 : Value} {T : TypeId} (h : w.heap[B]? = some (.cells #[a0, a1, a2, a3, a4] T (0, 0))) : w.cell? ⟨B, 0, none⟩ = some a0 ∧ w.cell? ⟨B, 1, none⟩ = some a1 ∧ w.cell? ⟨B, 2, none⟩ = some a2 ∧ w.cell? ⟨B, 3, none⟩ = some a3 ∧ w.cell? ⟨B, 4, none⟩ = some a4 := by
  refine ⟨?_, ?_, ?_, ?_, ?_⟩
  · rw [cell_of h 0]; rfl
  · rw [cell_of h 1]; rfl
  · rw [cell_of h 2]; rfl
  · rw [cell_of h 3]; rfl
  · rw [cell_of h 4]; rfl
theorem one {w : World} {B : Nat} {a0 : Value} {T : TypeId} (h : w.heap[B]? = some (.cells #[a0] T (0, 0))) : w.cell? ⟨B, 0, none⟩ = some a0 := by rw [cell_of h 0]; rfl
theorem made_any (p b cap : Nat) (W : V4) (n : Nat) (T : Nat → Int) (V : Nat → V4) (w : World) (h : PV w p b cap W n T V) : Calls Try.prog 65 #[.pointer (some ⟨p, 0, none⟩)] w fun e w' => e = .returned (.bool true) ∧ w = w' := by
  obtain ⟨_, _, _, _, c4⟩ := five h.h
  have n0 := h.n0
  clear h
  go_enter Try.func65, Try.ntmps65
  go_wp2
  all_goals go_returns
  all_goals exact ⟨rfl, rfl⟩
theorem made_nil (w : World) : Calls Try.prog 65 #[.pointer none] w fun e w' => e = .returned (.bool false) ∧ w = w' := by
  go_enter Try.func65, Try.ntmps65
  go_wp2
  all_goals go_returns
  all_goals exact ⟨rfl, rfl⟩
def spanB (f t : Int) : Bool := decide (0 ≤ f ∧ f < t ∧ t ≤ 1099511627776)
theorem span_any (f t : Int) (w : World) : Calls Try.prog 79 #[.int .i64 f, .int .i64 t] w fun e w' => e = .returned (.bool (spanB f t)) ∧ w = w' := by
  go_enter Try.func79, Try.ntmps79
  go_wp2
  all_goals go_returns
  all_goals exact ⟨ret_bool (by rw [Bool.eq_iff_iff]; simp [spanB]; try omega), rfl⟩
theorem place1_any (p b cap : Nat) (W : V4) (n : Nat) (T : Nat → Int) (V : Nat → V4) (X Y i : Nat) (t : Int) (w : World) (h : PV w p b cap W n T V) (hX : w.heap[X]? = some (.cells #[.pointer (some ⟨p, 0, none⟩)] 81 (0, 0))) (hY : w.heap[Y]? = some (.cells #[.int .i64 t] 3 (0, 0))) (hi : i < n) :
    Calls Try.prog 85 #[.int .i64 i, .pointer (some ⟨X, 0, none⟩), .pointer (some ⟨Y, 0, none⟩)] w fun e w' => e = .returned (.bool (decide (t < T i))) ∧ ∃ q os, w' = Go.Sort.grow (w.drewN q) os := by
  obtain ⟨_, _, _, _, c4⟩ := five h.h
  have c5 := (h.s.cells hi).1
  have cX := one hX
  have cY := one hY
  have hi' : (i : Int) < (n : Int) := by omega
  have hnl := h.nl
  generalize T i = ti at *
  clear h hX hY
  go_enter Try.func85, Try.ntmps85
  go_wp2_with fail
  go_region
  all_goals
    go_wp2_with fail
    go_returns
    exact ⟨rfl, 1, #[], by rw [Go.Sort.grow_empty]; rfl⟩
theorem below_grown (B : Nat) (w : World) (q : Nat) (os : Array Obj) (hB : B ≤ w.heap.size) : Below B w (Go.Sort.grow (w.drewN q) os) := Go.Proofs.below_grown_sl B w q os hB
theorem eg_place1 : ∀ args w, (callFunc 85 args).run Try.prog w = .ok (.enter 85 args) w := enters_of Try.func85 (by kernel_rfl) rfl
/-- The place of the step that holds at a tick. -/
theorem place_any (p b cap : Nat) (W : V4) (n : Nat) (T : Nat → Int) (V : Nat → V4) (k : Nat) (t : Int) (w : World) (h : PV w p b cap W n T V) (hup : ∀ i j, i ≤ j → j < n → T i ≤ T j) (hk : k < n) (hT : T k ≤ t) (hN : k + 1 < n → t < T (k + 1)) :
    Calls Try.prog 66 #[.pointer (some ⟨p, 0, none⟩), .int .i64 t] w fun e w' => e = .returned (.int .i64 k) ∧ Below w.heap.size w w' := by
  have hnl := h.nl
  have hcount : (List.range n).countP (fun i => !decide (t < T i)) = k + 1 := by
    have hr : ∀ j, j < n → (List.range n)[j]! = j := fun j hj => by rw [getElem!_pos _ j (by simpa using hj)]; simp
    refine Go.Lib.countP_boundary _ (List.range n) (k + 1) (by simp; omega) (fun j hj => ?_) (fun j h1 h2 => ?_)
    · rw [hr j (by omega)]
      have := hup j k (by omega) hk
      simp; try omega
    · have h2' : j < n := by simpa using h2
      rw [hr j h2']
      have h3 := hN (by omega)
      have := hup (k + 1) j h1 h2'
      simp; try omega
  have h1 : PV ((w.alloc (.cells #[.pointer (some ⟨p, 0, none⟩)] 81)).alloc (.cells #[.int .i64 t] 3)) p b cap W n T V := h.keep (by go_grown)
  have K : Hid (∀ (w1 : World), PV w1 p b cap W n T V → w1.heap[w.heap.size]? = some (.cells #[.pointer (some ⟨p, 0, none⟩)] 81 (0, 0)) → w1.heap[w.heap.size + 1]? = some (.cells #[.int .i64 t] 3 (0, 0)) →
      Calls Try.prog 84 #[.int .i64 n, .func (.func 85) #[] #[.pointer (some ⟨w.heap.size, 0, none⟩), .pointer (some ⟨w.heap.size + 1, 0, none⟩)]] w1 fun e w' => e = .returned (.int .i64 ((k : Int) + 1)) ∧ Below w1.heap.size w1 w') := hid fun w1 hp hX hY => by
    refine (Try.search 85 #[.pointer (some ⟨w.heap.size, 0, none⟩), .pointer (some ⟨w.heap.size + 1, 0, none⟩)] n (fun i => decide (t < T i)) w1 eg_place1 (by omega) (fun m os i hi => ?_) (fun a c hac hc ha => ?_)).mono ?_
    · have hb := below_grown w1.heap.size w1 m os (Nat.le_refl _)
      exact place1_any p b cap W n T V w.heap.size (w.heap.size + 1) i t _ (hp.keep hb) (keep0 hb hX) (keep0 hb hY) hi
    · have := hup a c hac hc
      simp at ha ⊢
      omega
    · rintro e w' ⟨rfl, q, os, rfl⟩
      exact ⟨ret_i64 (by rw [hcount]; omega), below_grown _ _ _ _ (Nat.le_refl _)⟩
  obtain ⟨_, _, _, _, c4⟩ := five h1.h
  have X0 := hid (show ((w.alloc (.cells #[.pointer (some ⟨p, 0, none⟩)] 81)).alloc (.cells #[.int .i64 t] 3)).heap[w.heap.size]? = some (.cells #[.pointer (some ⟨p, 0, none⟩)] 81 (0, 0)) from heapA (heap_new w _))
  have Y0 := hid (show ((w.alloc (.cells #[.pointer (some ⟨p, 0, none⟩)] 81)).alloc (.cells #[.int .i64 t] 3)).heap[w.heap.size + 1]? = some (.cells #[.int .i64 t] 3 (0, 0)) from by simpa using heap_new (w.alloc (.cells #[.pointer (some ⟨p, 0, none⟩)] 81)) (.cells #[.int .i64 t] 3))
  have g0 := hid (show Below w.heap.size w ((w.alloc (.cells #[.pointer (some ⟨p, 0, none⟩)] 81)).alloc (.cells #[.int .i64 t] 3)) from by go_grown)
  have H1 := hid h1
  have x0 := one X0.out
  clear h h1 hup hT hN hcount
  go_enter Try.func66, Try.ntmps66
  go_wp2_with fail
  refine (K.out _ H1.out X0.out Y0.out).mono ?_
  rintro _ w2 ⟨rfl, hb⟩
  have g2 := hid (below_step g0.out g0.out.size hb)
  clear hb
  go_wp2_with fail
  all_goals go_returns
  all_goals exact ⟨ret_i64 (by omega), g2.out⟩
end Go.Proofs.Ythkofnahimlijaa
