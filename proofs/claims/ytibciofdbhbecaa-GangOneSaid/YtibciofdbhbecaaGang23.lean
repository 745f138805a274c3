/- What the laws' walks share: an act in memory, pools that answer with an error. Conditions: none. -/
import Derived.Test.YtibciofdbhbecaaGang22
namespace Go.Proofs.Ytibciofdbhbecaa
open Go Go.RowKit
/-- The cells of an act. -/
theorem nine {w : World} {b : Nat} {t : TypeId} {fr : Nat × Nat} {x : Ac} (h : w.heap[b]? = some (.cells #[.int .i64 x.k, .slice x.A x.xs.length x.cap, .int .i64 x.a, .int .i64 x.c, .int .i64 x.m, .int .i64 x.v.a, .int .i64 x.v.b, .int .i64 x.v.c, .int .i64 x.v.d] t fr)) :
    w.cell? ⟨b, 0, none⟩ = some (.int .i64 x.k) ∧ w.cell? ⟨b, 1, none⟩ = some (.slice x.A x.xs.length x.cap) ∧ w.cell? ⟨b, 2, none⟩ = some (.int .i64 x.a) ∧ w.cell? ⟨b, 3, none⟩ = some (.int .i64 x.c) ∧ w.cell? ⟨b, 4, none⟩ = some (.int .i64 x.m) ∧
      w.cell? ⟨b, 5, none⟩ = some (.int .i64 x.v.a) ∧ w.cell? ⟨b, 6, none⟩ = some (.int .i64 x.v.b) ∧ w.cell? ⟨b, 7, none⟩ = some (.int .i64 x.v.c) ∧ w.cell? ⟨b, 8, none⟩ = some (.int .i64 x.v.d) :=
  ⟨cell_of h 0, cell_of h 1, cell_of h 2, cell_of h 3, cell_of h 4, cell_of h 5, cell_of h 6, cell_of h 7, cell_of h 8⟩
theorem V4.le_anti {x y : V4} (h : x.le y) (k : y.le x) : x = y := by
  cases x
  cases y
  simp [V4.le] at h k
  simp
  omega
theorem min_const {W m : V4} {f : Int → V4} {a c : Int} (h : MinOf W f a c m) (hf : ∀ t, f t = W) : m = W :=
  V4.le_anti ((h m).1 (V4.le_refl _)).1 ((h W).2 ⟨V4.le_refl _, fun t _ _ _ _ => by rw [hf]; exact V4.le_refl _⟩)
def gN : Nat → V4 := fun i => ([⟨1, 1, 1, 1⟩, ⟨2, 2, 2, 2⟩] : List V4).getD i V4.z
def gNF : Nat → Int → V4 := fun i _ => ([⟨1, 1, 1, 1⟩, ⟨2, 2, 2, 2⟩] : List V4).getD i V4.z
theorem no_new (w : World) (b : Nat) (t : TypeId) (hb : w.heap[b]? = some (.cells #[.int .i64 1, .int .i64 1, .int .i64 1, .int .i64 1, .int .i64 2, .int .i64 2, .int .i64 2, .int .i64 2] t (0, 0))) :
    Calls Try.prog 10 #[.slice (some ⟨b, 0, none⟩) 2 2] w fun e w' => ∃ q sv ps, e = .returned (.pointer (some ⟨q, 0, none⟩)) ∧ PL w' q sv 2 ps gN gNF ∧ (∀ i, i < 2 → w.heap.size ≤ ps i) ∧ Below w.heap.size w w' := by
  have hV : Vs w (some ⟨b, 0, none⟩) [⟨1, 1, 1, 1⟩, ⟨2, 2, 2, 2⟩] := .inr ⟨b, 0, rfl, lt_of hb, fun i x hx => by
    match i, hx with
    | 0, hx => cases hx; exact ⟨cell_of hb 0, cell_of hb 1, cell_of hb 2, cell_of hb 3⟩
    | 1, hx => cases hx; exact ⟨cell_of hb 4, cell_of hb 5, cell_of hb 6, cell_of hb 7⟩
    | i + 2, hx => simp at hx⟩
  refine (gnew_any _ 2 [⟨1, 1, 1, 1⟩, ⟨2, 2, 2, 2⟩] w hV (by decide)).mono ?_
  rintro e w' ⟨hb, ⟨_, h | ⟨x, hx, h⟩⟩ | ⟨q, sv, ps, rfl, _, hp, _, hps⟩⟩
  · simp at h
  · have : x = ⟨1, 1, 1, 1⟩ ∨ x = ⟨2, 2, 2, 2⟩ := by simpa using hx
    rcases this with this | this <;> rw [this] at h <;> cases h
  · exact ⟨q, sv, ps, rfl, hp, hps, hb⟩
theorem no_gang {x y : Int} {a c : Int} {v : V4} (h : ¬ (0 ≤ x ∧ x < y ∧ y < 2)) : badG 2 [x, y] a c v := .inl (gangB_no fun hg => h (by
  have h0 := hg.2.1 0 x rfl
  have h1 := hg.2.1 1 y rfl
  have h2 := hg.2.2 0 x y rfl rfl
  omega))
theorem no_two (x y : Int) (q : Nat) (sv : Value) (ps : Nat → Nat) (w : World) (h : PL w q sv 2 ps gN gNF) (hx : ¬ (0 ≤ x ∧ x < y ∧ y < 2)) : Calls Try.prog 19 #[.pointer (some ⟨q, 0, none⟩), .slice (some ⟨w.heap.size, 0, none⟩) 2 2, .int .i64 0, .int .i64 5, .agg #[.int .i64 1, .int .i64 0, .int .i64 0, .int .i64 0]] (w.alloc (.cells #[.int .i64 x, .int .i64 y] 3)) fun e w' => e = .returned (.int .i64 1) ∧ Below w.heap.size w w' := by
  have hb : Below w.heap.size w (w.alloc (.cells #[.int .i64 x, .int .i64 y] 3)) := (Below.refl _ _).alloc (Nat.le_refl _) _
  refine (gtake_bad _ 2 _ [x, y] 0 5 ⟨1, 0, 0, 0⟩ _ (gangK_any q sv 2 ps gN gNF (some ⟨w.heap.size, 0, none⟩) 2 [x, y] _ (h.keep hb) Ns.lit2 (by simp)) (no_gang hx)).mono ?_
  rintro e w' ⟨rfl, hw⟩
  exact ⟨rfl, hb.trans (hw.mono hb.size)⟩
theorem no_nil (q : Nat) (sv : Value) (ps : Nat → Nat) (w : World) (h : PL w q sv 2 ps gN gNF) : Calls Try.prog 19 #[.pointer (some ⟨q, 0, none⟩), .slice none 0 0, .int .i64 0, .int .i64 5, .agg #[.int .i64 1, .int .i64 0, .int .i64 0, .int .i64 0]] w fun e w' => e = .returned (.int .i64 1) ∧ Below w.heap.size w w' :=
  gtake_bad _ 2 _ [] 0 5 ⟨1, 0, 0, 0⟩ _ (gangK_any q sv 2 ps gN gNF none 0 [] _ h (.inl rfl) (by decide)) (.inl (gangB_no fun hg => hg.1 rfl))
theorem no_busy (q : Nat) (sv : Value) (ps : Nat → Nat) (w : World) (h : PL w q sv 2 ps gN gNF) : Calls Try.prog 19 #[.pointer (some ⟨q, 0, none⟩), .slice (some ⟨w.heap.size, 0, none⟩) 2 2, .int .i64 0, .int .i64 5, .agg #[.int .i64 2, .int .i64 0, .int .i64 0, .int .i64 0]] (w.alloc (.cells #[.int .i64 0, .int .i64 1] 3)) fun e w' => e = .returned (.int .i64 60) ∧ PL w' q sv 2 ps gN gNF ∧ FrP w w' 2 ps := by
  have hb : Below w.heap.size w (w.alloc (.cells #[.int .i64 0, .int .i64 1] 3)) := (Below.refl _ _).alloc (Nat.le_refl _) _
  refine (take_all q sv 2 ps gN gNF (some ⟨w.heap.size, 0, none⟩) 2 [0, 1] 0 5 ⟨2, 0, 0, 0⟩ _ (h.keep hb) Ns.lit2 (by decide) (Apart.new h (Nat.le_refl _))).mono ?_
  rintro e w' ⟨x, fs', rfl, hp, hf, ⟨_, h1, _⟩ | ⟨rfl, _, _, rfl⟩ | ⟨_, _, h2, _⟩⟩
  · rcases h1 with h1 | h1 | h1
    · rw [(gangB_iff _ _).2 (gang_two (by omega))] at h1
      cases h1
    · simp [spanB] at h1
    · simp [V4.okB] at h1
  · exact ⟨rfl, hp, (FrP.of 2 ps hb).trans hf⟩
  · have := (opB_iff _ _ _ _).1 (h2 0 (by simp)) 0 (by omega) (by omega)
    exact absurd this (by decide)
theorem no_idle (q : Nat) (sv : Value) (ps : Nat → Nat) (w : World) (h : PL w q sv 2 ps gN gNF) : Calls Try.prog 20 #[.pointer (some ⟨q, 0, none⟩), .slice (some ⟨w.heap.size, 0, none⟩) 2 2, .int .i64 0, .int .i64 5, .agg #[.int .i64 1, .int .i64 0, .int .i64 0, .int .i64 0]] (w.alloc (.cells #[.int .i64 0, .int .i64 1] 3)) fun e w' => e = .returned (.int .i64 61) ∧ PL w' q sv 2 ps gN gNF ∧ FrP w w' 2 ps := by
  have hb : Below w.heap.size w (w.alloc (.cells #[.int .i64 0, .int .i64 1] 3)) := (Below.refl _ _).alloc (Nat.le_refl _) _
  refine (give_all q sv 2 ps gN gNF (some ⟨w.heap.size, 0, none⟩) 2 [0, 1] 0 5 ⟨1, 0, 0, 0⟩ _ (h.keep hb) Ns.lit2 (by decide) (by decide) (Apart.new h (Nat.le_refl _))).mono ?_
  rintro e w' ⟨x, fs', rfl, hp, hf, ⟨_, h1, _⟩ | ⟨rfl, _, _, rfl⟩ | ⟨_, _, h2, _⟩⟩
  · rcases h1 with h1 | h1 | h1
    · rw [(gangB_iff _ _).2 (gang_two (by omega))] at h1
      cases h1
    · simp [spanB] at h1
    · simp [V4.okB] at h1
  · exact ⟨rfl, hp, (FrP.of 2 ps hb).trans hf⟩
  · have := h2 0 (by simp) 0 (by omega) (by omega)
    exact absurd this (by decide)
theorem no_free (i : Nat) (q : Nat) (sv : Value) (ps : Nat → Nat) (w : World) (h : PL w q sv 2 ps gN gNF) (hi : i < 2) : Calls Try.prog 14 #[.pointer (some ⟨q, 0, none⟩), .int .i64 (i : Nat), .int .i64 0, .int .i64 5] w fun e w' => e = .returned (.agg #[.int .i64 ((gN i)).a, .int .i64 ((gN i)).b, .int .i64 ((gN i)).c, .int .i64 ((gN i)).d]) ∧ Below w.heap.size w w' := by
  refine (gfree_any q sv 2 ps gN gNF i 0 5 w h hi).mono ?_
  rintro e w' ⟨m, rfl, hm, hb⟩
  rw [min_const hm fun _ => rfl]
  exact ⟨rfl, hb⟩
end Go.Proofs.Ytibciofdbhbecaa
