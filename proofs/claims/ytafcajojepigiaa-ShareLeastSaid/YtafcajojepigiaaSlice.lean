/- A row of shares that came in, opened: empty, or two cells a share below the old heap. Condition: none. -/
import Derived.Test.YtafcajojepigiaaLeast
import Derived.Test.YtafcajojepigiaaOpen
import Derived.Deep.Slices
namespace Go.Proofs.Ytafcajojepigiaa
open Go Go.ChangeShapes Go.WideShapes Go.RowKit
theorem add_two (b off k : Nat) : (⟨b, off, none⟩ : Addr).add k = ⟨b, off + k, none⟩ := by
  unfold Addr.add
  split <;> simp_all
def ShRow (w : World) (A : Option Addr) (len : Nat) : Prop :=
  len = 0 ∨ ∃ b off S, A = some ⟨b, off, none⟩ ∧ b < w.heap.size ∧ len ≤ 9223372036854775807 ∧ Shares w b off len S ∧ ∀ i, i < len → (S i).1 ≤ 9223372036854775807 ∧ (S i).2 ≤ 9223372036854775807
theorem cells_two {w : World} {base : Nat} {a : Addr} {cs : List Value} (h : w.cells? base a 2 = some cs) : ∃ x y, cs = [x, y] ∧ w.cell? a = some x ∧ w.cell? (a.add 1) = some y := by
  obtain ⟨_, hl, hc⟩ := World.cells?_some h
  match cs, hl with
  | [x, y], _ =>
    have h0 := hc 0 (by decide)
    have h1 := hc 1 (by decide)
    refine ⟨x, y, rfl, ?_, h1⟩
    have e : a.add 0 = a := by simp [Addr.add]
    rw [e] at h0
    exact h0
theorem row_is {H : Type} {enc : TypeId × Value → H} {W : World} {base : Nat} {v : Value} {d : DataW H} {p : List MemPlace}
    (hv : Value.okWide Try.prog W .any base 39 v) (h : DataW.Trod enc Try.prog W 0 (fun _ => true) true 39 v d p) :
    ∃ A len cap, v = .slice A len cap ∧ ShRow W A len := by
  obtain ⟨a0, len, cap, rfl⟩ := okWide_slice Try.underlying39 hv
  obtain ⟨fuel, hf⟩ := h
  refine ⟨a0, len, cap, rfl, ?_⟩
  rcases Go.Deep.open_slice Try.underlying39 hf with ⟨hcs, _⟩ | ⟨a, l, c, m, n, D, Pl, hcs, _, hl, hm, hmm, _, hi⟩
  · simp [Value.cells] at hcs
    exact .inl hcs.2.1
  · simp [Value.cells] at hcs
    obtain ⟨rfl, rfl, rfl⟩ := hcs
    by_cases h0 : len = 0
    · exact .inl h0
    have hc23 : Try.prog.cellsOf 23 = 2 := by kernel_rfl
    have c3 : Try.prog.cellsOf 3 = 1 := by kernel_rfl
    have hm' : m = cap := by simpa using hmm
    subst hm'
    rw [hc23] at hi
    have key : ∀ i, i < len → ∃ x y : Int, W.cell? (a.add (i * 2)) = some (.int .i64 x) ∧ W.cell? ((a.add (i * 2)).add 1) = some (.int .i64 y) ∧ x ≤ 9223372036854775807 ∧ y ≤ 9223372036854775807 := by
      intro i hil
      obtain ⟨cs', hcell, ht⟩ := hi i (by omega)
      obtain ⟨x, y, rfl, k0, k1⟩ := cells_two hcell
      obtain ⟨xs, m', _, _, _, hx, hfield⟩ := DataW.trod_struct Try.underlying23 ht
      obtain ⟨y0, hy0⟩ : ∃ y, xs[0]? = some y := ⟨_, List.getElem?_eq_getElem (by rw [hx]; decide)⟩
      have r0 : DataW.trod enc Try.prog W 0 (fun _ => true) true m' 3 [x] = some y0 := by
        have := hfield 0 _ rfl
        rw [hy0] at this
        simpa [c3] using this
      obtain ⟨y1, hy1⟩ : ∃ y, xs[1]? = some y := ⟨_, List.getElem?_eq_getElem (by rw [hx]; decide)⟩
      have r1 : DataW.trod enc Try.prog W 0 (fun _ => true) true m' 3 [y] = some y1 := by
        have := hfield 1 _ rfl
        rw [hy1] at this
        simpa [c3] using this
      obtain ⟨n0, e0, _, w0⟩ := DataW.trod_int Try.underlying3 r0
      obtain ⟨n1, e1, _, w1⟩ := DataW.trod_int Try.underlying3 r1
      simp only [List.cons.injEq, and_true] at e0 e1
      subst e0 e1
      exact ⟨n0, n1, k0, k1, (wf_le w0).2, (wf_le w1).2⟩
    obtain ⟨b, off, spot⟩ := a
    obtain ⟨x, y, k0, _⟩ := key 0 (by omega)
    have hspot : spot = none := by
      have := World.cell?_spot k0
      simpa [Addr.add] using this
    subst hspot
    have hb : b < W.heap.size := by
      have := block_lt_of_cell k0
      simpa [Addr.add] using this
    have key' : ∀ i, i < len → ∃ x y : Int, W.cell? ⟨b, off + i * 2, none⟩ = some (.int .i64 x) ∧ W.cell? ⟨b, off + i * 2 + 1, none⟩ = some (.int .i64 y) ∧ x ≤ 9223372036854775807 ∧ y ≤ 9223372036854775807 := fun i hi => by
      obtain ⟨x, y, h0, h1, h2⟩ := key i hi
      rw [add_two] at h0 h1
      rw [add_two] at h1
      exact ⟨x, y, h0, h1, h2⟩
    unfold maxLen at hm
    refine .inr ⟨b, off, fun i => if h : i < len then ((key' i h).choose, (key' i h).choose_spec.choose) else (0, 0), rfl, hb, by omega, fun i hil => ?_, fun i hil => ?_⟩
    · have hs := (key' i hil).choose_spec.choose_spec
      simp only [dif_pos hil]
      exact ⟨hs.1, hs.2.1⟩
    · have hs := (key' i hil).choose_spec.choose_spec
      simp only [dif_pos hil]
      exact hs.2.2
/-- What the least one is: below none, and the first of its like. -/
theorem leF_least (S : Nat → Int × Int) (m : Nat) (hm : 0 < m) : ∃ k : Nat, leF S m = k ∧ k < m ∧ ∀ i, i < m → 0 ≤ cmpS (S i).1 (S i).2 (S k).1 (S k).2 ∧ (i < k → 0 < cmpS (S i).1 (S i).2 (S k).1 (S k).2) := by
  induction m with
  | zero => omega
  | succ m ih =>
    by_cases h0 : m = 0
    · subst h0
      refine ⟨0, by simp [leF], by omega, fun i hi => ?_⟩
      obtain rfl : i = 0 := by omega
      exact ⟨by rw [cmp_self]; omega, fun h => by omega⟩
    · obtain ⟨k, hk, hkm, hall⟩ := ih (by omega)
      have hu : leF S (m + 1) = if leF S m < 0 then (m : Int) else if cmpS (S m).1 (S m).2 (S (leF S m).toNat).1 (S (leF S m).toNat).2 < 0 then (m : Int) else leF S m := rfl
      rw [hk, if_neg (by omega), Int.toNat_natCast] at hu
      by_cases hc : cmpS (S m).1 (S m).2 (S k).1 (S k).2 < 0
      · rw [if_pos hc] at hu
        refine ⟨m, hu, by omega, fun i hi => ?_⟩
        have hs : ∀ i, i < m → 0 < cmpS (S i).1 (S i).2 (S m).1 (S m).2 := fun i him => by
          have h1 := (hall i him).1
          have h2 := cmp_turn (S m).1 (S m).2 (S k).1 (S k).2
          have h3 := (cmp_trans (S i).1 (S i).2 (S k).1 (S k).2 (S m).1 (S m).2).1 h1 (by omega)
          by_cases hz : cmpS (S i).1 (S i).2 (S m).1 (S m).2 = 0
          · have h4 := cmp_turn (S i).1 (S i).2 (S m).1 (S m).2
            have h5 := (cmp_trans (S m).1 (S m).2 (S i).1 (S i).2 (S k).1 (S k).2).1 (by omega) h1
            omega
          · omega
        by_cases him : i = m
        · subst him
          exact ⟨by rw [cmp_self]; omega, fun h => by omega⟩
        · exact ⟨by have := hs i (by omega); omega, fun _ => hs i (by omega)⟩
      · rw [if_neg hc] at hu
        refine ⟨k, hu, by omega, fun i hi => ?_⟩
        by_cases him : i = m
        · subst him
          exact ⟨by omega, fun h => by omega⟩
        · exact hall i (by omega)
end Go.Proofs.Ytafcajojepigiaa
