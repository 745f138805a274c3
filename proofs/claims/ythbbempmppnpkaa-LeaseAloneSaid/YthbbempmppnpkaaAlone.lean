/- Steps of a script that come in; four claims in one block; who leads. Conditions: the row stands in memory. -/
import Derived.Test.YthbbempmppnpkaaGrants
import Derived.Laws.BitsLemmas
namespace Go.Proofs.Ythbbempmppnpkaa
open Go Go.Joins Go.ChangeShapes Go.WideShapes Go.RowKit
theorem i64_and3 (n : Int) : ∃ k : Nat, k < 4 ∧ bits .and .i64 n 3 = (k : Int) := by
  have h15 : (BitVec.ofInt 64 3).toNat = 2 ^ 2 - 1 := by decide
  have key : (BitVec.ofInt 64 n &&& BitVec.ofInt 64 3).toNat = (n % ((2 ^ 64 : Nat) : Int)).toNat % 2 ^ 2 := by
    rw [BitVec.toNat_and, BitVec.toNat_ofInt, h15, Nat.and_two_pow_sub_one_eq_mod]
  refine ⟨(BitVec.ofInt 64 n &&& BitVec.ofInt 64 3).toNat, by rw [key]; omega, ?_⟩
  show IntKind.i64.wrap ((BitVec.ofInt 64 n &&& BitVec.ofInt 64 3).toNat : Nat) = _
  rw [key, IntKind.wrap_i64]
  omega
theorem i64_and31 (n : Int) : ∃ k : Int, 0 ≤ k ∧ k ≤ 31 ∧ bits .and .i64 n 31 = k := by
  have h15 : (BitVec.ofInt 64 31).toNat = 2 ^ 5 - 1 := by decide
  have key : (BitVec.ofInt 64 n &&& BitVec.ofInt 64 31).toNat = (n % ((2 ^ 64 : Nat) : Int)).toNat % 2 ^ 5 := by
    rw [BitVec.toNat_and, BitVec.toNat_ofInt, h15, Nat.and_two_pow_sub_one_eq_mod]
  refine ⟨((BitVec.ofInt 64 n &&& BitVec.ofInt 64 31).toNat : Nat), by omega, by rw [key]; omega, ?_⟩
  show IntKind.i64.wrap ((BitVec.ofInt 64 n &&& BitVec.ofInt 64 31).toNat : Nat) = _
  rw [key, IntKind.wrap_i64]
  omega
/-- The slice at A holds these steps. -/
def Steps (w : World) (A : Option Addr) (gs : List (Int × Bool × Int)) : Prop :=
  gs = [] ∨ ∃ b off, A = some ⟨b, off, none⟩ ∧ b < w.heap.size ∧ ∀ (j : Nat) g, gs[j]? = some g → w.cell? ⟨b, off + j * 3, none⟩ = some (.int .i64 g.1) ∧ w.cell? ⟨b, off + j * 3 + 1, none⟩ = some (.bool g.2.1) ∧ w.cell? ⟨b, off + j * 3 + 2, none⟩ = some (.int .i64 g.2.2)
theorem Try.cells41 : Try.prog.cellsOf 41 = 3 := by kernel_rfl
theorem step_of {H : Type} {enc : TypeId × Value → H} {W : World} {fuel : Nat} {cs : List Value} {x : DataW H × List MemPlace} (hlen : cs.length = 3)
    (hf : DataW.trod enc Try.prog W 0 (fun _ => true) true fuel 41 cs = some x) : ∃ (a : Int) (b : Bool) (c : Int), cs = [.int .i64 a, .bool b, .int .i64 c] := by
  obtain ⟨xs, n, _, hx, _, hlen2, hg⟩ := DataW.trod_struct Try.underlying41 hf
  match cs, hlen with
  | [c0, c1, c2], _ =>
    match xs, hlen2 with
    | [y0, y1, y2], _ =>
      have h0 := hg 0 _ rfl
      have h1 := hg 1 _ rfl
      have h2 := hg 2 _ rfl
      have e0 : ([c0, c1, c2].drop 0).take (Try.prog.cellsOf 3) = [c0] := by rw [show Try.prog.cellsOf 3 = 1 by kernel_rfl]; rfl
      have e1 : ([c0, c1, c2].drop 1).take (Try.prog.cellsOf 4) = [c1] := by rw [show Try.prog.cellsOf 4 = 1 by kernel_rfl]; rfl
      have e2 : ([c0, c1, c2].drop 2).take (Try.prog.cellsOf 3) = [c2] := by rw [show Try.prog.cellsOf 3 = 1 by kernel_rfl]; rfl
      have h0' : DataW.trod enc Try.prog W 0 (fun _ => true) true n 3 [c0] = some y0 := by rw [← e0]; simpa using h0
      have h1' : DataW.trod enc Try.prog W 0 (fun _ => true) true n 4 [c1] = some y1 := by rw [← e1]; simpa using h1
      have h2' : DataW.trod enc Try.prog W 0 (fun _ => true) true n 3 [c2] = some y2 := by rw [← e2]; simpa using h2
      obtain ⟨a, q0, _, w0⟩ := DataW.trod_int Try.underlying3 h0'
      obtain ⟨b, q1, _⟩ := DataW.trod_bool Try.underlying4 h1'
      obtain ⟨c, q2, _, w2⟩ := DataW.trod_int Try.underlying3 h2'
      simp at q0 q1 q2
      subst q0 q1 q2
      exact ⟨a, b, c, rfl⟩
theorem steps_is {H : Type} {enc : TypeId × Value → H} {W : World} {base : Nat} {v : Value} {d : DataW H} {p : List MemPlace}
    (hv : Value.okWide Try.prog W .any base 38 v) (h : DataW.Trod enc Try.prog W 0 (fun _ => true) true 38 v d p) :
    ∃ A cap gs, v = .slice A (List.length gs) cap ∧ Steps W A gs ∧ gs.length ≤ 9223372036854775807 := by
  obtain ⟨a0, len, cap, rfl⟩ := okWide_slice Try.underlying38 hv
  obtain ⟨fuel, hf⟩ := h
  rcases Go.Deep.open_slice Try.underlying38 hf with ⟨hcs, _⟩ | ⟨a, l, c, m, n, D, Pl, hcs, _, hl, hm, hmm, _, hi⟩
  · simp [Value.cells] at hcs
    obtain ⟨rfl, rfl, rfl⟩ := hcs
    exact ⟨none, 0, [], rfl, .inl rfl, by decide⟩
  · simp [Value.cells] at hcs
    obtain ⟨rfl, rfl, rfl⟩ := hcs
    have hm' : m = cap := by simpa using hmm
    subst hm'
    rw [Try.cells41] at hi
    unfold maxLen at hm
    by_cases h0 : len = 0
    · subst h0
      exact ⟨some a, m, [], rfl, .inl rfl, by decide⟩
    have key : ∀ i, i < len → ∃ g : Int × Bool × Int, W.cell? (a.add (i * 3)) = some (.int .i64 g.1) ∧ W.cell? ((a.add (i * 3)).add 1) = some (.bool g.2.1) ∧ W.cell? ((a.add (i * 3)).add 2) = some (.int .i64 g.2.2) := by
      intro i hil
      obtain ⟨cs', hcell, ht⟩ := hi i (by omega)
      obtain ⟨_, hl1, hc⟩ := World.cells?_some hcell
      obtain ⟨x, y, z, e0⟩ := step_of hl1 ht
      subst e0
      have hc0 := hc 0 (by simp)
      have hc1 := hc 1 (by simp)
      have hc2 := hc 2 (by simp)
      refine ⟨(x, y, z), ?_, hc1, hc2⟩
      simpa [Addr.add] using hc0
    obtain ⟨b, off, spot⟩ := a
    obtain ⟨x, k0, _⟩ := key 0 (by omega)
    have hspot : spot = none := by
      have := World.cell?_spot k0
      simpa [Addr.add] using this
    subst hspot
    have hb : b < W.heap.size := by
      have := block_lt_of_cell k0
      simpa [Addr.add] using this
    have key' : ∀ i, i < len → ∃ g : Int × Bool × Int, W.cell? ⟨b, off + i * 3, none⟩ = some (.int .i64 g.1) ∧ W.cell? ⟨b, off + i * 3 + 1, none⟩ = some (.bool g.2.1) ∧ W.cell? ⟨b, off + i * 3 + 2, none⟩ = some (.int .i64 g.2.2) := fun i hi => by
      obtain ⟨x, r0, r1, r2⟩ := key i hi
      rw [add_add] at r1 r2
      rw [add_off] at r0
      exact ⟨x, r0, r1, r2⟩
    have hall : ∀ (j : Nat) g, ((List.range len).map (fun i => if h : i < len then (key' i h).choose else x))[j]? = some g → W.cell? ⟨b, off + j * 3, none⟩ = some (.int .i64 g.1) ∧ W.cell? ⟨b, off + j * 3 + 1, none⟩ = some (.bool g.2.1) ∧ W.cell? ⟨b, off + j * 3 + 2, none⟩ = some (.int .i64 g.2.2) := by
      intro j g hx
      rw [List.getElem?_map] at hx
      obtain ⟨j', hj', rfl⟩ := Option.map_eq_some_iff.1 hx
      have hj : j < len ∧ j' = j := by
        obtain ⟨h1, h2⟩ := List.getElem?_eq_some_iff.1 hj'
        simp at h1 h2
        exact ⟨h1, h2.symm⟩
      obtain ⟨hj, rfl⟩ := hj
      rw [dif_pos hj]
      exact (key' j' hj).choose_spec
    exact ⟨some ⟨b, off, none⟩, m, (List.range len).map (fun i => if h : i < len then (key' i h).choose else x), by simp, .inr ⟨b, off, rfl, hb, fun j g hx => hall j g hx⟩, by simp; omega⟩
/-- Four claims in one block. -/
def cells4 (C : Nat → Clm) : Array Value := #[.int .i64 (C 0).e, .int .i64 (C 0).w, .int .i64 (C 0).u, .int .i64 (C 1).e, .int .i64 (C 1).w, .int .i64 (C 1).u, .int .i64 (C 2).e, .int .i64 (C 2).w, .int .i64 (C 2).u, .int .i64 (C 3).e, .int .i64 (C 3).w, .int .i64 (C 3).u]
def C4 (w : World) (cb : Nat) (C : Nat → Clm) : Prop := w.heap[cb]? = some (.cells (cells4 C) 39 (0, 0))
theorem C4.keep {w w' : World} {cb : Nat} {C : Nat → Clm} (h : C4 w cb C) (hb : Below w.heap.size w w') : C4 w' cb C := keep0 hb h
theorem C4.keepG {w w' : World} {cb k : Nat} {C : Nat → Clm} (h : C4 w cb C) (hg : w.grownBy w' (some k)) (hne : cb ≠ k) : C4 w' cb C := by
  unfold C4 at *
  rw [hg.block cb (lt_of h) (fun e => hne (by cases e; rfl)), h]
theorem c4_at {w : World} {cb : Nat} {C : Nat → Clm} (h : C4 w cb C) (k : Nat) (hk : k < 4) : w.cell? ⟨cb, k * 3, none⟩ = some (.int .i64 (C k).e) ∧ w.cell? ⟨cb, k * 3 + 1, none⟩ = some (.int .i64 (C k).w) ∧ w.cell? ⟨cb, k * 3 + 2, none⟩ = some (.int .i64 (C k).u) := by
  unfold C4 at h
  match k, hk with
  | 0, _ => exact ⟨by rw [cell_of h]; rfl, by rw [cell_of h]; rfl, by rw [cell_of h]; rfl⟩
  | 1, _ => exact ⟨by rw [cell_of h]; rfl, by rw [cell_of h]; rfl, by rw [cell_of h]; rfl⟩
  | 2, _ => exact ⟨by rw [cell_of h]; rfl, by rw [cell_of h]; rfl, by rw [cell_of h]; rfl⟩
  | 3, _ => exact ⟨by rw [cell_of h]; rfl, by rw [cell_of h]; rfl, by rw [cell_of h]; rfl⟩
def updC (C : Nat → Clm) (k : Nat) (c : Clm) : Nat → Clm := fun i => if i = k then c else C i
theorem updC_at (C : Nat → Clm) (k : Nat) (c : Clm) : updC C k c k = c := if_pos rfl
theorem updC_ne (C : Nat → Clm) (k : Nat) (c : Clm) (i : Nat) (h : i ≠ k) : updC C k c i = C i := if_neg h
theorem c4_set {w : World} {cb : Nat} {C : Nat → Clm} (h : C4 w cb C) (k : Nat) (hk : k < 4) (c : Clm) :
    C4 (((w.setCell ⟨cb, k * 3, none⟩ (.int .i64 c.e)).setCell ⟨cb, k * 3 + 1, none⟩ (.int .i64 c.w)).setCell ⟨cb, k * 3 + 2, none⟩ (.int .i64 c.u)) cb (updC C k c) := by
  unfold C4 at *
  have h0 := heap_setCell_same w cb (k * 3) _ 39 (.int .i64 c.e) h
  have h1 := heap_setCell_same _ cb (k * 3 + 1) _ 39 (.int .i64 c.w) h0
  have h2 := heap_setCell_same _ cb (k * 3 + 2) _ 39 (.int .i64 c.u) h1
  rw [h2]
  match k, hk with
  | 0, _ => rfl
  | 1, _ => rfl
  | 2, _ => rfl
  | 3, _ => rfl
theorem c4_free {w : World} {cb : Nat} {C : Nat → Clm} (h : C4 w cb C) (i : Nat) : w.frozen? ⟨cb, i, none⟩ = false := free_of h i
/-- What the rounds keep: n the tick, D the disk's claim, C the claims, h who holds. -/
def Alone (j : Nat) (n : Int) (D : Clm) (C : Nat → Clm) (h : Int) : Prop :=
  (0 ≤ n ∧ n ≤ 31 * j) ∧ (0 ≤ D.e ∧ D.e ≤ j) ∧ (∀ k < 4, 0 ≤ (C k).u ∧ (C k).u ≤ n + 40) ∧
  ((h = -1 ∧ D = ⟨0, 0, 0⟩ ∧ ∀ k < 4, (C k).e = 0) ∨ ∃ g : Nat, g < 4 ∧ h = g ∧ C g = D ∧ 0 < D.e ∧ D.w = g ∧ ∀ k < 4, k ≠ g → (C k).e = 0 ∨ (C k).u + 2 ≤ n)
/-- Time goes on. -/
theorem Alone.wait {j : Nat} {n t : Int} {D : Clm} {C : Nat → Clm} {h : Int} (a : Alone j n D C h) (h0 : 0 ≤ t) (h1 : t ≤ 31) : Alone (j + 1) (n + t) D C h := by
  obtain ⟨⟨a1, a2⟩, ⟨a3, a4⟩, a5, a6⟩ := a
  refine ⟨⟨by omega, by omega⟩, ⟨a3, by omega⟩, fun k hk => ⟨(a5 k hk).1, by have := (a5 k hk).2; omega⟩, ?_⟩
  rcases a6 with a6 | ⟨g, g1, g2, g3, g4, g5, g6⟩
  · exact .inl a6
  · exact .inr ⟨g, g1, g2, g3, g4, g5, fun k hk hne => (g6 k hk hne).imp id (fun h => by omega)⟩
theorem Alone.lead {j : Nat} {n : Int} {D : Clm} {C : Nat → Clm} {h : Int} (a : Alone j n D C h) (k : Nat) (hk : k < 4) (hl : leadsB (C k) n = true) : h = k ∧ C k = D ∧ 0 < D.e := by
  have hl' : 0 < (C k).e ∧ n < (C k).u := by simpa [leadsB] using hl
  obtain ⟨_, _, _, ⟨_, _, z⟩ | ⟨g, g1, g2, g3, g4, g5, g6⟩⟩ := a
  · have := z k hk; omega
  · by_cases e : k = g
    · subst e; exact ⟨g2, g3, g4⟩
    · have := g6 k hk e; omega
theorem Alone.renew {j : Nat} {n : Int} {D : Clm} {C : Nat → Clm} {h : Int} (a : Alone j n D C h) (k : Nat) (hk : k < 4) (hl : leadsB (C k) n = true) : Alone j n ⟨(C k).e, (C k).w, nextU (C k).u n⟩ (updC C k ⟨(C k).e, (C k).w, nextU (C k).u n⟩) h := by
  obtain ⟨e1, e2, e3⟩ := a.lead k hk hl
  obtain ⟨a1, a2, a5, a6⟩ := a
  have hu := a5 k hk
  have hu2 : 0 ≤ nextU (C k).u n ∧ nextU (C k).u n ≤ n + 40 := by unfold nextU; split <;> omega
  refine ⟨a1, by rw [e2]; exact a2, fun m hm => ?_, .inr ⟨k, hk, e1, updC_at _ _ _, by rw [e2]; exact e3, ?_, fun m hm hne => ?_⟩⟩
  · by_cases e : m = k
    · subst e; rw [updC_at]; exact hu2
    · rw [updC_ne _ _ _ _ e]; exact a5 m hm
  · rcases a6 with ⟨g1, g2, g3⟩ | ⟨g, g1, g2, g3, g4, g5, g6⟩
    · omega
    · obtain rfl : g = k := by omega
      rw [e2]; exact g5
  · rw [updC_ne _ _ _ _ hne]
    rcases a6 with ⟨g1, g2, g3⟩ | ⟨g, g1, g2, g3, g4, g5, g6⟩
    · omega
    · obtain rfl : g = k := by omega
      exact g6 m hm hne
/-- A taking that is let: nobody else may lead till the guard is over. -/
theorem Alone.take {j : Nat} {n : Int} {D : Clm} {C : Nat → Clm} {h : Int} (a : Alone j n D C h) (k : Nat) (hf : freeB D k n = true) (m : Nat) (hm : m < 4) (hne : m ≠ k) : (C m).e = 0 ∨ (C m).u + 2 ≤ n := by
  have hf' : (D.e ≤ 0 ∨ D.w = k) ∨ (¬ 2199023255552 < D.u ∧ D.u + 2 ≤ n) := by simpa [freeB] using hf
  obtain ⟨_, _, _, ⟨_, _, z⟩ | ⟨g, g1, g2, g3, g4, g5, g6⟩⟩ := a
  · exact .inl (z m hm)
  · by_cases e : m = g
    · subst e
      rw [g3]
      omega
    · exact g6 m hm e
theorem Alone.taken {j : Nat} {n : Int} {D : Clm} {C : Nat → Clm} {h : Int} (a : Alone j n D C h) (k : Nat) (hk : k < 4) (hf : freeB D k n = true) : Alone (j + 1) n ⟨D.e + 1, k, n + 40⟩ (updC C k ⟨D.e + 1, k, n + 40⟩) k := by
  have ht := a.take k hf
  obtain ⟨⟨a1, a2⟩, ⟨a3, a4⟩, a5, a6⟩ := a
  refine ⟨⟨a1, by omega⟩, ⟨by simp only; omega, by simp only; omega⟩, fun m hm => ?_, .inr ⟨k, hk, rfl, updC_at _ _ _, by simp only; omega, rfl, fun m hm hne => ?_⟩⟩
  · by_cases e : m = k
    · subst e; rw [updC_at]; simp only; omega
    · rw [updC_ne _ _ _ _ e]; exact a5 m hm
  · rw [updC_ne _ _ _ _ hne]
    exact ht m hm hne
/-- A taking that is refused: another one holds, and its guard is not over. -/
theorem Alone.held {j : Nat} {n : Int} {D : Clm} {C : Nat → Clm} {h : Int} (a : Alone j n D C h) (hj : j ≤ 1000) (k : Nat) (hf : freeB D k n = false) : ∃ g : Nat, g < 4 ∧ h = g ∧ g ≠ k ∧ n < (C g).u + 2 := by
  have hf' : ¬ ((D.e ≤ 0 ∨ D.w = k) ∨ (¬ 2199023255552 < D.u ∧ D.u + 2 ≤ n)) := by simpa [freeB] using hf
  obtain ⟨⟨a1, a2⟩, ⟨a3, a4⟩, a5, ⟨_, z1, z⟩ | ⟨g, g1, g2, g3, g4, g5, g6⟩⟩ := a
  · subst z1; simp at hf'
  · have := a5 g g1
    rw [g3] at this
    refine ⟨g, g1, g2, fun e => hf' (.inl (.inr (by rw [g5, e]))), ?_⟩
    rw [g3]
    omega
theorem Alone.more {j m : Nat} {n : Int} {D : Clm} {C : Nat → Clm} {h : Int} (a : Alone j n D C h) (hm : j ≤ m) : Alone m n D C h := by
  obtain ⟨⟨a1, a2⟩, ⟨a3, a4⟩, r⟩ := a
  exact ⟨⟨a1, by omega⟩, ⟨a3, by omega⟩, r⟩
theorem Alone.ok {j : Nat} {n : Int} {D : Clm} {C : Nat → Clm} {h : Int} (a : Alone j n D C h) (hj : j ≤ 1000) : D.ok := by
  obtain ⟨⟨a1, a2⟩, ⟨a3, a4⟩, a5, ⟨_, z1, z⟩ | ⟨g, g1, g2, g3, g4, g5, g6⟩⟩ := a
  · subst z1; simp [Clm.ok]
  · have := a5 g g1
    rw [g3] at this
    unfold Clm.ok
    omega
theorem Alone.tick {j : Nat} {n : Int} {D : Clm} {C : Nat → Clm} {h : Int} (a : Alone j n D C h) (hj : j ≤ 1000) : tickB n = true ∧ (0 ≤ n ∧ n ≤ 31000) ∧ (0 ≤ D.e ∧ D.e ≤ 1000) := by
  obtain ⟨⟨a1, a2⟩, ⟨a3, a4⟩, _⟩ := a
  exact ⟨by simp [tickB]; omega, by omega, by omega⟩
theorem Alone.start : Alone 0 0 ⟨0, 0, 0⟩ (fun _ => ⟨0, 0, 0⟩) (-1) := ⟨⟨by decide, by decide⟩, ⟨by decide, by decide⟩, fun _ _ => (show (0 : Int) ≤ 0 ∧ (0 : Int) ≤ 0 + 40 by decide), .inl ⟨rfl, rfl, fun _ _ => rfl⟩⟩
theorem Alone.until {j : Nat} {n : Int} {D : Clm} {C : Nat → Clm} {h : Int} (a : Alone j n D C h) (k : Nat) (hk : k < 4) : 0 ≤ (C k).u ∧ (C k).u ≤ n + 40 := a.2.2.1 k hk
theorem set3_grown (w : World) (cb i : Nat) (v0 v1 v2 : Value) : w.grownBy (((w.setCell ⟨cb, i, none⟩ v0).setCell ⟨cb, i + 1, none⟩ v1).setCell ⟨cb, i + 2, none⟩ v2) (some cb) :=
  grown_trans (grown_trans (grown_set _ _ _ _) (grown_set _ _ _ _)) (grown_set _ _ _ _)
theorem three_at {W w : World} {B : Nat} {a0 a1 a2 : Value} {T : TypeId} (h : W.heap[B]? = some (.cells #[a0, a1, a2] T (0, 0))) (hb : Below W.heap.size W w) : w.cell? ⟨B, 0, none⟩ = some a0 ∧ w.cell? ⟨B, 1, none⟩ = some a1 ∧ w.cell? ⟨B, 2, none⟩ = some a2 := three (keep0 hb h)
theorem DK.keepG {w w' : World} {db k : Nat} {c : Clm} (h : DK w db c) (hg : w.grownBy w' (some k)) (hne : db ≠ k) : DK w' db c := by
  unfold DK at *
  rw [hg.block db (lt_of h) (fun e => hne (by cases e; rfl)), h]
end Go.Proofs.Ythbbempmppnpkaa
