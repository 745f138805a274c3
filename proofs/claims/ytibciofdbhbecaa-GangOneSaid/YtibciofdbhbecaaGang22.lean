/- How the laws' arguments open: amounts, numbers, acts, rows of them. Conditions: none. -/
import Derived.Test.YtibciofdbhbecaaGang21
import Derived.Lib.SmallJoins
import Derived.OpenShut
import Derived.ProofKit
import Derived.Deep.Slices
namespace Go.Proofs.Ytibciofdbhbecaa
open Go Go.Joins Go.ChangeShapes Go.WideShapes Go.RowKit
set_option maxRecDepth 100000
theorem wf_i64 {n : Int} (h : (Lit.int .i64 n).wf = true) : -9223372036854775808 ≤ n ∧ n ≤ 9223372036854775807 := by
  simpa [Lit.wf, IntKind.min, IntKind.max, IntKind.signed, IntKind.bits] using h
theorem okWide_array {P : Program} {w : World} {r : Reach} {base n : Nat} {t e : TypeId} {v : Value} (ht : P.underlying t = some (.array n e)) (h : Value.okWide P w r base t v) : ∃ cs, v = .agg cs ∧ cs.size = P.cellsOf t := by
  simp only [Value.okWide, ht] at h
  obtain ⟨cs, h1, h2, _⟩ := h
  exact ⟨cs, h1, h2⟩
theorem add_off (b off j : Nat) : (⟨b, off, none⟩ : Addr).add j = ⟨b, off + j, none⟩ := by
  unfold Addr.add
  split <;> simp_all
theorem add_add (b off i j : Nat) : ((⟨b, off, none⟩ : Addr).add i).add j = ⟨b, off + i + j, none⟩ := by rw [add_off, add_off]
/-- The slice at A holds a row of elements of so many cells each, each of which is told by R. -/
def RowOf {α : Type} (w : World) (A : Option Addr) (size : Nat) (R : α → List Value → Prop) (xs : List α) : Prop :=
  xs = [] ∨ ∃ b off, A = some ⟨b, off, none⟩ ∧ b < w.heap.size ∧ ∀ (j : Nat) x, xs[j]? = some x → ∃ cs, R x cs ∧ cs.length = size ∧ ∀ i, i < size → w.cell? ⟨b, off + j * size + i, none⟩ = cs[i]?
theorem RowOf.keep {α : Type} {w w' : World} {A : Option Addr} {size : Nat} {R : α → List Value → Prop} {xs : List α} (h : RowOf w A size R xs) (hb : Below w.heap.size w w') : RowOf w' A size R xs := by
  rcases h with e | ⟨b, off, rfl, hlt, hc⟩
  · exact .inl e
  · refine .inr ⟨b, off, rfl, Nat.lt_of_lt_of_le hlt hb.size, fun j x hx => ?_⟩
    obtain ⟨cs, h1, h2, h3⟩ := hc j x hx
    exact ⟨cs, h1, h2, fun i hi => by rw [hb.cell (p := ⟨b, off + j * size + i, none⟩) hlt]; exact h3 i hi⟩
theorem row_is {α : Type} {P : Program} {H : Type} {enc : TypeId × Value → H} {W : World} {t e : TypeId} (size : Nat) (ht : P.underlying t = some (.slice e)) (hsz : P.cellsOf e = size) (hpos : 0 < size) (R : α → List Value → Prop)
    (hR : ∀ cs n x, cs.length = size → DataW.trod enc P W 0 (fun _ => true) true n e cs = some x → ∃ y : α, R y cs) {fuel : Nat} {cs0 : List Value} {x0 : DataW H × List MemPlace} (h : DataW.trod enc P W 0 (fun _ => true) true fuel t cs0 = some x0) :
    ∃ A cap xs, cs0 = [.slice A (List.length xs) cap] ∧ RowOf W A size R xs ∧ xs.length ≤ cap ∧ xs.length ≤ 9223372036854775807 ∧ (A = none → cap = 0) := by
  rcases Go.Deep.open_slice ht h with ⟨hcs, _⟩ | ⟨a, l, c, m, n, D, Pl, hcs, _, hl, hm, hmm, _, hi⟩
  · exact ⟨none, 0, [], hcs, .inl rfl, Nat.le_refl _, by simp, fun _ => rfl⟩
  · have hm' : m = c := by simpa using hmm
    subst hm'
    rw [hsz] at hi
    unfold maxLen at hm
    by_cases h0 : l = 0
    · subst h0
      exact ⟨some a, m, [], hcs, .inl rfl, Nat.zero_le _, by simp, fun h => by cases h⟩
    have key : ∀ i, i < l → ∃ (x : α) (cs : List Value), R x cs ∧ cs.length = size ∧ ∀ j, j < size → W.cell? ((a.add (i * size)).add j) = cs[j]? := by
      intro i hil
      obtain ⟨cs', hcell, htr⟩ := hi i (by omega)
      obtain ⟨_, hl1, hc⟩ := World.cells?_some hcell
      obtain ⟨y, hy⟩ := hR cs' _ _ hl1 htr
      exact ⟨y, cs', hy, hl1, fun j hj => hc j (by omega)⟩
    obtain ⟨b, off, spot⟩ := a
    obtain ⟨x, cs1, _, hl1, k0⟩ := key 0 (by omega)
    have k00 := k0 0 hpos
    rw [List.getElem?_eq_getElem (by omega)] at k00
    have hspot : spot = none := by
      have := World.cell?_spot k00
      simpa [Addr.add] using this
    subst hspot
    have hb : b < W.heap.size := by
      have := block_lt_of_cell k00
      simpa [Addr.add] using this
    have key' : ∀ i, i < l → ∃ (x : α), ∃ cs : List Value, R x cs ∧ cs.length = size ∧ ∀ j, j < size → W.cell? ⟨b, off + i * size + j, none⟩ = cs[j]? := fun i hi => by
      obtain ⟨x, cs, h1, h2, h3⟩ := key i hi
      exact ⟨x, cs, h1, h2, fun j hj => by rw [← h3 j hj, add_add]⟩
    refine ⟨some ⟨b, off, none⟩, m, (List.range l).map (fun i => if h : i < l then (key' i h).choose else x), by simpa using hcs, .inr ⟨b, off, rfl, hb, fun j y hy => ?_⟩, by simpa using hl, by simp; omega, fun h => by cases h⟩
    rw [List.getElem?_map] at hy
    obtain ⟨j', hj', rfl⟩ := Option.map_eq_some_iff.1 hy
    have hj : j < l ∧ j' = j := by
      obtain ⟨h1, h2⟩ := List.getElem?_eq_some_iff.1 hj'
      simp at h1 h2
      exact ⟨h1, h2.symm⟩
    obtain ⟨hj, rfl⟩ := hj
    rw [dif_pos hj]
    exact (key' j' hj).choose_spec
def i64 (n : Int) : Prop := -9223372036854775808 ≤ n ∧ n ≤ 9223372036854775807
def V4.In (v : V4) : Prop := i64 v.a ∧ i64 v.b ∧ i64 v.c ∧ i64 v.d
theorem vec_of {H : Type} {enc : TypeId × Value → H} {W : World} {fuel : Nat} {x0 x1 x2 x3 : Value} {x : DataW H × List MemPlace}
    (hf : DataW.trod enc Try.prog W 0 (fun _ => true) true fuel 34 [x0, x1, x2, x3] = some x) : ∃ v : V4, x0 = .int .i64 v.a ∧ x1 = .int .i64 v.b ∧ x2 = .int .i64 v.c ∧ x3 = .int .i64 v.d ∧ v.In := by
  obtain ⟨xs, m, _, _, _, hx, hfield⟩ := DataW.trod_array Try.underlying34 hf
  have c3 : Try.prog.cellsOf 3 = 1 := by kernel_rfl
  have key : ∀ i (x : Value), i < 4 → ([x0, x1, x2, x3].drop (i * 1)).take 1 = [x] → ∃ n : Int, x = .int .i64 n ∧ i64 n := by
    intro i x hi hx'
    have hf' := hfield i hi
    rw [c3] at hf'
    obtain ⟨y, hy⟩ : ∃ y, xs[i]? = some y := ⟨_, List.getElem?_eq_getElem (by rw [hx]; exact hi)⟩
    rw [hy, hx'] at hf'
    obtain ⟨n, e0, _, w0⟩ := DataW.trod_int Try.underlying3 hf'
    simp only [List.cons.injEq, and_true] at e0
    exact ⟨n, e0, wf_i64 w0⟩
  obtain ⟨n0, rfl, a0⟩ := key 0 x0 (by decide) rfl
  obtain ⟨n1, rfl, a1⟩ := key 1 x1 (by decide) rfl
  obtain ⟨n2, rfl, a2⟩ := key 2 x2 (by decide) rfl
  obtain ⟨n3, rfl, a3⟩ := key 3 x3 (by decide) rfl
  exact ⟨⟨n0, n1, n2, n3⟩, rfl, rfl, rfl, rfl, a0, a1, a2, a3⟩
theorem vec_is {H : Type} {enc : TypeId × Value → H} {W : World} {base : Nat} {v : Value} {d : DataW H} {p : List MemPlace}
    (hv : Value.okWide Try.prog W .any base 34 v) (h : DataW.Trod enc Try.prog W 0 (fun _ => true) true 34 v d p) :
    ∃ x : V4, v = .agg #[.int .i64 x.a, .int .i64 x.b, .int .i64 x.c, .int .i64 x.d] ∧ x.In := by
  obtain ⟨cs, rfl, hn⟩ := okWide_array Try.underlying34 hv
  have hc : Try.prog.cellsOf 34 = 4 := by kernel_rfl
  rw [hc] at hn
  obtain ⟨fuel, hf⟩ := h
  obtain ⟨l⟩ := cs
  match l, hn with
  | [x0, x1, x2, x3], _ =>
    obtain ⟨x, rfl, rfl, rfl, rfl, hx⟩ := vec_of (x0 := x0) (x1 := x1) (x2 := x2) (x3 := x3) hf
    exact ⟨x, rfl, hx⟩

def IntR : Int → List Value → Prop := fun x cs => cs = [.int .i64 x] ∧ i64 x
theorem ints_of {H : Type} {enc : TypeId × Value → H} {W : World} {fuel : Nat} {c0 : Value} {x : DataW H × List MemPlace} (hf : DataW.trod enc Try.prog W 0 (fun _ => true) true fuel 32 [c0] = some x) :
    ∃ A cap xs, c0 = .slice A (List.length xs) cap ∧ Ns W A xs ∧ xs.length ≤ cap ∧ xs.length ≤ 9223372036854775807 ∧ ∀ x, x ∈ xs → i64 x := by
  obtain ⟨A, cap, xs, h1, h2, h3, h4, h5⟩ := row_is (α := Int) 1 Try.underlying32 (by kernel_rfl) (by decide) IntR (fun cs n x hl ht => by
    match cs, hl with
    | [c0], _ =>
      obtain ⟨n, e0, _, w0⟩ := DataW.trod_int Try.underlying3 ht
      exact ⟨n, e0, wf_i64 w0⟩) hf
  simp at h1
  refine ⟨A, cap, xs, h1, ?_, h3, h4, ?_⟩
  · rcases h2 with rfl | ⟨b, off, rfl, hlt, hc⟩
    · exact .inl rfl
    · refine .inr ⟨b, off, rfl, hlt, fun i x hx => ?_⟩
      obtain ⟨cs, ⟨rfl, _⟩, _, k⟩ := hc i x hx
      have := k 0 (by omega)
      simpa using this
  · intro x hx
    rcases h2 with rfl | ⟨b, off, rfl, hlt, hc⟩
    · simp at hx
    · obtain ⟨i, hi⟩ := List.getElem?_of_mem hx
      obtain ⟨cs, ⟨_, h⟩, _⟩ := hc i x hi
      exact h
/-- An act. -/
structure Ac where
  k : Int
  A : Option Addr
  cap : Nat
  xs : List Int
  a : Int
  c : Int
  m : Int
  v : V4
def Ac.cells (x : Ac) : List Value := [.int .i64 x.k, .slice x.A x.xs.length x.cap, .int .i64 x.a, .int .i64 x.c, .int .i64 x.m, .int .i64 x.v.a, .int .i64 x.v.b, .int .i64 x.v.c, .int .i64 x.v.d]
/-- What is known of an act that comes in. -/
structure Ac.In (x : Ac) (W : World) : Prop where
  k : i64 x.k
  n : Ns W x.A x.xs
  cap : x.xs.length ≤ x.cap
  len : x.xs.length ≤ 9223372036854775807
  xs : ∀ y, y ∈ x.xs → i64 y
  a : i64 x.a
  c : i64 x.c
  m : i64 x.m
  v : x.v.In
theorem act_of {H : Type} {enc : TypeId × Value → H} {W : World} {fuel : Nat} {cs : List Value} {x : DataW H × List MemPlace} (hl : cs.length = 9)
    (hf : DataW.trod enc Try.prog W 0 (fun _ => true) true fuel 36 cs = some x) : ∃ a : Ac, cs = a.cells ∧ a.In W := by
  obtain ⟨xs, n, _, hx, _, hlen2, hg⟩ := DataW.trod_struct Try.underlying36 hf
  have c3 : Try.prog.cellsOf 3 = 1 := by kernel_rfl
  have cI : Try.prog.cellsOf 32 = 1 := by kernel_rfl
  have cV : Try.prog.cellsOf 34 = 4 := by kernel_rfl
  match cs, hl with
  | [c0, c1, c2, c3', c4, c5, c6, c7, c8], _ =>
    match xs, hlen2 with
    | [y0, y1, y2, y3, y4, y5], _ =>
      have h0 : DataW.trod enc Try.prog W 0 (fun _ => true) true n 3 (([c0, c1, c2, c3', c4, c5, c6, c7, c8].drop 0).take (Try.prog.cellsOf 3)) = some y0 := hg 0 _ rfl
      have h1 : DataW.trod enc Try.prog W 0 (fun _ => true) true n 32 (([c0, c1, c2, c3', c4, c5, c6, c7, c8].drop 1).take (Try.prog.cellsOf 32)) = some y1 := hg 1 _ rfl
      have h2 : DataW.trod enc Try.prog W 0 (fun _ => true) true n 3 (([c0, c1, c2, c3', c4, c5, c6, c7, c8].drop 2).take (Try.prog.cellsOf 3)) = some y2 := hg 2 _ rfl
      have h3 : DataW.trod enc Try.prog W 0 (fun _ => true) true n 3 (([c0, c1, c2, c3', c4, c5, c6, c7, c8].drop 3).take (Try.prog.cellsOf 3)) = some y3 := hg 3 _ rfl
      have h4 : DataW.trod enc Try.prog W 0 (fun _ => true) true n 3 (([c0, c1, c2, c3', c4, c5, c6, c7, c8].drop 4).take (Try.prog.cellsOf 3)) = some y4 := hg 4 _ rfl
      have h5 : DataW.trod enc Try.prog W 0 (fun _ => true) true n 34 (([c0, c1, c2, c3', c4, c5, c6, c7, c8].drop 5).take (Try.prog.cellsOf 34)) = some y5 := hg 5 _ rfl
      rw [c3] at h0 h2 h3 h4
      rw [cI] at h1
      rw [cV] at h5
      obtain ⟨n0, e0, _, w0⟩ := DataW.trod_int Try.underlying3 (cs := [c0]) h0
      obtain ⟨A, cap, l, e1, k1, k2, k3, k4⟩ := ints_of (c0 := c1) h1
      obtain ⟨n2, e2, _, w2⟩ := DataW.trod_int Try.underlying3 (cs := [c2]) h2
      obtain ⟨n3, e3, _, w3⟩ := DataW.trod_int Try.underlying3 (cs := [c3']) h3
      obtain ⟨n4, e4, _, w4⟩ := DataW.trod_int Try.underlying3 (cs := [c4]) h4
      obtain ⟨v, e5, e6, e7, e8, hv⟩ := vec_of (x0 := c5) (x1 := c6) (x2 := c7) (x3 := c8) h5
      simp at e0 e2 e3 e4
      subst e0 e1 e2 e3 e4 e5 e6 e7 e8
      exact ⟨⟨n0, A, cap, l, n2, n3, n4, v⟩, rfl, ⟨wf_i64 w0, k1, k2, k3, k4, wf_i64 w2, wf_i64 w3, wf_i64 w4, hv⟩⟩
theorem act_is {H : Type} {enc : TypeId × Value → H} {W : World} {base : Nat} {v : Value} {d : DataW H} {p : List MemPlace}
    (hv : Value.okWide Try.prog W .any base 36 v) (h : DataW.Trod enc Try.prog W 0 (fun _ => true) true 36 v d p) : ∃ a : Ac, v = .agg #[.int .i64 a.k, .slice a.A a.xs.length a.cap, .int .i64 a.a, .int .i64 a.c, .int .i64 a.m, .int .i64 a.v.a, .int .i64 a.v.b, .int .i64 a.v.c, .int .i64 a.v.d] ∧ a.In W := by
  obtain ⟨cs, rfl, hsz⟩ := okWide_struct Try.underlying36 hv
  obtain ⟨fuel, hf⟩ := h
  have hl : cs.toList.length = 9 := by
    rw [Array.length_toList, hsz]
    kernel_rfl
  obtain ⟨a, ha, hok⟩ := act_of hl hf
  refine ⟨a, ?_, hok⟩
  rw [show (#[.int .i64 a.k, .slice a.A a.xs.length a.cap, .int .i64 a.a, .int .i64 a.c, .int .i64 a.m, .int .i64 a.v.a, .int .i64 a.v.b, .int .i64 a.v.c, .int .i64 a.v.d] : Array Value) = a.cells.toArray from rfl, ← ha]
/-- A row of acts. -/
def Acts (W w : World) (A : Option Addr) (xs : List Ac) : Prop := RowOf w A 9 (fun a cs => cs = a.cells ∧ a.In W) xs
theorem acts_is {H : Type} {enc : TypeId × Value → H} {W : World} {base : Nat} {v : Value} {d : DataW H} {p : List MemPlace}
    (hv : Value.okWide Try.prog W .any base 23 v) (h : DataW.Trod enc Try.prog W 0 (fun _ => true) true 23 v d p) :
    ∃ A cap xs, v = .slice A (List.length xs) cap ∧ Acts W W A xs ∧ xs.length ≤ 9223372036854775807 := by
  obtain ⟨a0, len, cap, rfl⟩ := okWide_slice Try.underlying23 hv
  obtain ⟨fuel, hf⟩ := h
  obtain ⟨A, cap', xs, h1, h2, h3, h4, h5⟩ := row_is (α := Ac) 9 Try.underlying23 (by kernel_rfl) (by decide) (fun a cs => cs = a.cells ∧ a.In W) (fun cs n x hl ht => act_of hl ht) hf
  simp [Value.cells] at h1
  obtain ⟨rfl, rfl, rfl⟩ := h1
  exact ⟨_, _, xs, rfl, h2, h4⟩
theorem Acts.keep {W w w' : World} {A : Option Addr} {xs : List Ac} (h : Acts W w A xs) (hb : Below w.heap.size w w') : Acts W w' A xs := RowOf.keep h hb
theorem Acts.at {W w : World} {A : Option Addr} {xs : List Ac} (h : Acts W w A xs) {k : Nat} {x : Ac} (hk : xs[k]? = some x) : x.In W ∧ ∃ b off, A = some ⟨b, off, none⟩ ∧ b < w.heap.size ∧ w.cell? ⟨b, off + k * 9, none⟩ = some (.int .i64 x.k) ∧ w.cell? ⟨b, off + k * 9 + 1, none⟩ = some (.slice x.A x.xs.length x.cap) ∧ w.cell? ⟨b, off + k * 9 + 2, none⟩ = some (.int .i64 x.a) ∧ w.cell? ⟨b, off + k * 9 + 3, none⟩ = some (.int .i64 x.c) ∧ w.cell? ⟨b, off + k * 9 + 4, none⟩ = some (.int .i64 x.m) ∧
    w.cell? ⟨b, off + k * 9 + 5, none⟩ = some (.int .i64 x.v.a) ∧ w.cell? ⟨b, off + k * 9 + 6, none⟩ = some (.int .i64 x.v.b) ∧ w.cell? ⟨b, off + k * 9 + 7, none⟩ = some (.int .i64 x.v.c) ∧ w.cell? ⟨b, off + k * 9 + 8, none⟩ = some (.int .i64 x.v.d) := by
  rcases h with rfl | ⟨b, off, rfl, hlt, hc⟩
  · simp at hk
  · obtain ⟨cs, ⟨rfl, hin⟩, _, h3⟩ := hc k x hk
    exact ⟨hin, b, off, rfl, hlt, h3 0 (by omega), h3 1 (by omega), h3 2 (by omega), h3 3 (by omega), h3 4 (by omega), h3 5 (by omega), h3 6 (by omega), h3 7 (by omega), h3 8 (by omega)⟩
/-- A row of amounts. -/
theorem vecs_is {H : Type} {enc : TypeId × Value → H} {W : World} {base : Nat} {v : Value} {d : DataW H} {p : List MemPlace}
    (hv : Value.okWide Try.prog W .any base 22 v) (h : DataW.Trod enc Try.prog W 0 (fun _ => true) true 22 v d p) :
    ∃ A cap xs, v = .slice A (List.length xs) cap ∧ Vs W A xs ∧ xs.length ≤ 9223372036854775807 ∧ ∀ x, x ∈ xs → x.In := by
  obtain ⟨a0, len, cap, rfl⟩ := okWide_slice Try.underlying22 hv
  obtain ⟨fuel, hf⟩ := h
  obtain ⟨A, cap', xs, h1, h2, h3, h4, h5⟩ := row_is (α := V4) 4 Try.underlying22 (by kernel_rfl) (by decide) (fun x cs => cs = [.int .i64 x.a, .int .i64 x.b, .int .i64 x.c, .int .i64 x.d] ∧ x.In) (fun cs n x hl ht => by
    match cs, hl with
    | [x0, x1, x2, x3], _ =>
      obtain ⟨x, rfl, rfl, rfl, rfl, hx⟩ := vec_of (x0 := x0) (x1 := x1) (x2 := x2) (x3 := x3) ht
      exact ⟨x, rfl, hx⟩) hf
  simp [Value.cells] at h1
  obtain ⟨rfl, rfl, rfl⟩ := h1
  refine ⟨_, _, xs, rfl, ?_, h4, ?_⟩
  · rcases h2 with rfl | ⟨b, off, rfl, hlt, hc⟩
    · exact .inl rfl
    · refine .inr ⟨b, off, rfl, hlt, fun i x hx => ?_⟩
      obtain ⟨cs, ⟨rfl, _⟩, _, k⟩ := hc i x hx
      exact ⟨k 0 (by omega), k 1 (by omega), k 2 (by omega), k 3 (by omega)⟩
  · intro x hx
    rcases h2 with rfl | ⟨b, off, rfl, hlt, hc⟩
    · simp at hx
    · obtain ⟨i, hi⟩ := List.getElem?_of_mem hx
      obtain ⟨cs, ⟨_, h⟩, _⟩ := hc i x hi
      exact h
end Go.Proofs.Ytibciofdbhbecaa
