/- How the laws' arguments open: slices of bytes, rows of them, acts. Conditions: none. -/
import Derived.Test.YtbpgeghenninnaaDoorAwake
import Derived.Lib.SmallJoins
import Derived.OpenShut
import Derived.ProofKit
import Derived.Deep.Slices
namespace Go.Proofs.YtbpgeghenninnaaDoor
open Go Go.Joins Go.ChangeShapes Go.WideShapes Go.RowKit
theorem wf_i64 {n : Int} (h : (Lit.int .i64 n).wf = true) : -9223372036854775808 ≤ n ∧ n ≤ 9223372036854775807 := by
  simpa [Lit.wf, IntKind.min, IntKind.max, IntKind.signed, IntKind.bits] using h
theorem wf_u8 {n : Int} (h : (Lit.int .u8 n).wf = true) : 0 ≤ n ∧ n ≤ 255 := by
  simpa [Lit.wf, IntKind.min, IntKind.max, IntKind.signed, IntKind.bits] using h
theorem wf_u32 {n : Int} (h : (Lit.int .u32 n).wf = true) : 0 ≤ n ∧ n ≤ 4294967295 := by
  simpa [Lit.wf, IntKind.min, IntKind.max, IntKind.signed, IntKind.bits] using h
theorem add_add (b off i j : Nat) : ((⟨b, off, none⟩ : Addr).add i).add j = ⟨b, off + i + j, none⟩ := by rw [add_off, add_off]
/-- The slice at A holds a row of elements of so many cells each, each of which is told by R. -/
def RowOf {α : Type} (w : World) (A : Option Addr) (size : Nat) (R : α → List Value → Prop) (xs : List α) : Prop :=
  xs = [] ∨ ∃ b off, A = some ⟨b, off, none⟩ ∧ b < w.heap.size ∧ ∀ (j : Nat) x, xs[j]? = some x → ∃ cs, R x cs ∧ cs.length = size ∧ ∀ i, i < size → w.cell? ⟨b, off + j * size + i, none⟩ = cs[i]?
theorem RowOf.keep {α : Type} {w w' : World} {A : Option Addr} {size : Nat} {R : α → List Value → Prop} {xs : List α} (h : RowOf w A size R xs) (hb : Below w.heap.size w w') : RowOf w' A size R xs := by
  rcases h with e | ⟨b, off, rfl, hlt, hc⟩
  · exact .inl e
  · refine .inr ⟨b, off, rfl, Nat.lt_of_lt_of_le hlt hb.size, fun j x hx => ?_⟩
    obtain ⟨cs, h1, h2, h3⟩ := hc j x hx
    exact ⟨cs, h1, h2, fun i hi => by rw [hb.cell (p := ⟨b, off + j * size + i, none⟩) hlt]; exact h3 i hi⟩
theorem row_is {α : Type} {P : Program} {H : Type} {enc : TypeId × Value → H} {W : World} {t e : TypeId} (size : Nat) (ht : P.underlying t = some (.slice e)) (hsz : P.cellsOf e = size) (hpos : 0 < size) (R : α → List Value → Prop)
    (hR : ∀ cs n x, cs.length = size → DataW.trod enc P W 0 (fun _ => true) true n e cs = some x → ∃ y : α, R y cs) {fuel : Nat} {cs0 : List Value} {x0 : DataW H × List MemPlace} (h : DataW.trod enc P W 0 (fun _ => true) true fuel t cs0 = some x0) :
    ∃ A cap xs, cs0 = [.slice A (List.length xs) cap] ∧ RowOf W A size R xs ∧ xs.length ≤ cap ∧ xs.length ≤ 9223372036854775807 ∧ (A = none → cap = 0) := by
  rcases Go.Deep.open_slice ht h with ⟨hcs, _⟩ | ⟨a, l, c, m, n, D, Pl, hcs, _, hl, hm, hmm, _, hi⟩
  · exact ⟨none, 0, [], hcs, .inl rfl, Nat.le_refl _, by simp, fun _ => rfl⟩
  · have hm' : m = c := by simpa using hmm
    subst hm'
    rw [hsz] at hi
    unfold maxLen at hm
    by_cases h0 : l = 0
    · subst h0
      exact ⟨some a, m, [], hcs, .inl rfl, Nat.zero_le _, by simp, fun h => by cases h⟩
    have key : ∀ i, i < l → ∃ (x : α) (cs : List Value), R x cs ∧ cs.length = size ∧ ∀ j, j < size → W.cell? ((a.add (i * size)).add j) = cs[j]? := by
      intro i hil
      obtain ⟨cs', hcell, htr⟩ := hi i (by omega)
      obtain ⟨_, hl1, hc⟩ := World.cells?_some hcell
      obtain ⟨y, hy⟩ := hR cs' _ _ hl1 htr
      exact ⟨y, cs', hy, hl1, fun j hj => hc j (by omega)⟩
    obtain ⟨b, off, spot⟩ := a
    obtain ⟨x, cs1, _, hl1, k0⟩ := key 0 (by omega)
    have k00 := k0 0 hpos
    rw [List.getElem?_eq_getElem (by omega)] at k00
    have hspot : spot = none := by
      have := World.cell?_spot k00
      simpa [Addr.add] using this
    subst hspot
    have hb : b < W.heap.size := by
      have := block_lt_of_cell k00
      simpa [Addr.add] using this
    have key' : ∀ i, i < l → ∃ (x : α), ∃ cs : List Value, R x cs ∧ cs.length = size ∧ ∀ j, j < size → W.cell? ⟨b, off + i * size + j, none⟩ = cs[j]? := fun i hi => by
      obtain ⟨x, cs, h1, h2, h3⟩ := key i hi
      exact ⟨x, cs, h1, h2, fun j hj => by rw [← h3 j hj, add_add]⟩
    refine ⟨some ⟨b, off, none⟩, m, (List.range l).map (fun i => if h : i < l then (key' i h).choose else x), by simpa using hcs, .inr ⟨b, off, rfl, hb, fun j y hy => ?_⟩, by simpa using hl, by simp; omega, fun h => by cases h⟩
    rw [List.getElem?_map] at hy
    obtain ⟨j', hj', rfl⟩ := Option.map_eq_some_iff.1 hy
    have hj : j < l ∧ j' = j := by
      obtain ⟨h1, h2⟩ := List.getElem?_eq_some_iff.1 hj'
      simp at h1 h2
      exact ⟨h1, h2.symm⟩
    obtain ⟨hj, rfl⟩ := hj
    rw [dif_pos hj]
    exact (key' j' hj).choose_spec
theorem ofNat_toNat_lt {n : Nat} (h : n < 256) : (UInt8.ofNat n).toNat = n := by
  rw [UInt8.toNat_ofNat']
  omega
/-- A slice of bytes as it may come in. -/
def Sl (w : World) (A : Option Addr) (cap : Nat) (bs : List UInt8) : Prop := Bts w A bs ∧ bs.length ≤ cap ∧ bs.length ≤ 9223372036854775807 ∧ NilOk A cap bs
theorem Sl.keep {w w' : World} {A : Option Addr} {cap : Nat} {bs : List UInt8} (h : Sl w A cap bs) (hb : Below w.heap.size w w') : Sl w' A cap bs := ⟨h.1.keep hb, h.2⟩
theorem bytes_of {H : Type} {enc : TypeId × Value → H} {W : World} {fuel : Nat} {cs : List Value} {x : DataW H × List MemPlace}
    (hf : DataW.trod enc Tryd.prog W 0 (fun _ => true) true fuel 32 cs = some x) : ∃ A cap bs, cs = [.slice A (List.length bs) cap] ∧ Sl W A cap bs := by
  obtain ⟨A, cap, bs, h1, h2, h3, h4, h5⟩ := row_is (α := UInt8) 1 Tryd.underlying32 (by kernel_rfl) (by decide) (fun x cs => cs = [bv x]) (fun cs n x hl ht => by
    obtain ⟨z, e0, _, w0⟩ := DataW.trod_int Tryd.underlying5 ht
    obtain ⟨z0, z1⟩ := wf_u8 w0
    refine ⟨UInt8.ofNat z.toNat, ?_⟩
    rw [e0]
    unfold bv
    rw [ofNat_toNat_lt (by omega)]
    congr 2
    omega) hf
  refine ⟨A, cap, bs, h1, ?_, h3, h4, fun e => ⟨h5 e, ?_⟩⟩
  · rcases h2 with rfl | ⟨b, off, rfl, hlt, hc⟩
    · exact .inl rfl
    · refine .inr ⟨b, off, rfl, hlt, fun j x hx => ?_⟩
      obtain ⟨cs, rfl, _, h⟩ := hc j x hx
      simpa using h 0 (by decide)
  · rcases h2 with rfl | ⟨b, off, rfl, hlt, hc⟩
    · rfl
    · cases e
theorem bytes_is {H : Type} {enc : TypeId × Value → H} {W : World} {base : Nat} {v : Value} {d : DataW H} {p : List MemPlace}
    (hv : Value.okWide Tryd.prog W .any base 32 v) (h : DataW.Trod enc Tryd.prog W 0 (fun _ => true) true 32 v d p) :
    ∃ A cap bs, v = .slice A (List.length bs) cap ∧ Sl W A cap bs := by
  obtain ⟨a0, len, cap, rfl⟩ := okWide_slice Tryd.underlying32 hv
  obtain ⟨fuel, hf⟩ := h
  obtain ⟨A, cap', bs, h1, h2⟩ := bytes_of hf
  simp [Value.cells] at h1
  obtain ⟨rfl, rfl, rfl⟩ := h1
  exact ⟨_, _, bs, rfl, h2⟩
/-- An act. -/
structure ActS where
  kind : Int
  near : Bool
  ep : Int
  at_ : Int
  bA : Option Addr
  bc : Nat
  bs : List UInt8
  sum : Int
  old : Int × Int × Int
  c : Int × Int × Int
def ActS.cells (a : ActS) : List Value := [.int .i64 a.kind, .bool a.near, .int .i64 a.ep, .int .i64 a.at_, .slice a.bA a.bs.length a.bc, .int .u32 a.sum, .int .i64 a.old.1, .int .i64 a.old.2.1, .int .i64 a.old.2.2, .int .i64 a.c.1, .int .i64 a.c.2.1, .int .i64 a.c.2.2]
def i64 (n : Int) : Prop := -9223372036854775808 ≤ n ∧ n ≤ 9223372036854775807
structure ActS.Ok (W : World) (a : ActS) : Prop where
  b : Sl W a.bA a.bc a.bs
  kind : i64 a.kind
  ep : i64 a.ep
  at_ : i64 a.at_
  s0 : 0 ≤ a.sum
  s1 : a.sum ≤ 4294967295
  o0 : i64 a.old.1
  o1 : i64 a.old.2.1
  o2 : i64 a.old.2.2
  c0 : i64 a.c.1
  c1 : i64 a.c.2.1
  c2 : i64 a.c.2.2
theorem claim_of {H : Type} {enc : TypeId × Value → H} {W : World} {fuel : Nat} {a b c : Value} {x : DataW H × List MemPlace}
    (hf : DataW.trod enc Tryd.prog W 0 (fun _ => true) true fuel 27 [a, b, c] = some x) : ∃ q : Int × Int × Int, a = .int .i64 q.1 ∧ b = .int .i64 q.2.1 ∧ c = .int .i64 q.2.2 ∧ i64 q.1 ∧ i64 q.2.1 ∧ i64 q.2.2 := by
  obtain ⟨xs, n, _, hx, _, hlen2, hg⟩ := DataW.trod_struct Tryd.underlying27 hf
  have c3 : Tryd.prog.cellsOf 3 = 1 := by kernel_rfl
  match xs, hlen2 with
  | [y0, y1, y2], _ =>
    have h0 : DataW.trod enc Tryd.prog W 0 (fun _ => true) true n 3 (([a, b, c].drop 0).take (Tryd.prog.cellsOf 3)) = some y0 := hg 0 _ rfl
    have h1 : DataW.trod enc Tryd.prog W 0 (fun _ => true) true n 3 (([a, b, c].drop 1).take (Tryd.prog.cellsOf 3)) = some y1 := hg 1 _ rfl
    have h2 : DataW.trod enc Tryd.prog W 0 (fun _ => true) true n 3 (([a, b, c].drop 2).take (Tryd.prog.cellsOf 3)) = some y2 := hg 2 _ rfl
    rw [c3] at h0 h1 h2
    obtain ⟨n0, e0, _, w0⟩ := DataW.trod_int Tryd.underlying3 (cs := [a]) h0
    obtain ⟨n1, e1, _, w1⟩ := DataW.trod_int Tryd.underlying3 (cs := [b]) h1
    obtain ⟨n2, e2, _, w2⟩ := DataW.trod_int Tryd.underlying3 (cs := [c]) h2
    simp at e0 e1 e2
    exact ⟨(n0, n1, n2), e0, e1, e2, wf_i64 w0, wf_i64 w1, wf_i64 w2⟩
theorem act_of {H : Type} {enc : TypeId × Value → H} {W : World} {fuel : Nat} {cs : List Value} {x : DataW H × List MemPlace} (hl : cs.length = 12)
    (hf : DataW.trod enc Tryd.prog W 0 (fun _ => true) true fuel 35 cs = some x) : ∃ a : ActS, cs = a.cells ∧ a.Ok W := by
  obtain ⟨xs, n, _, hx, _, hlen2, hg⟩ := DataW.trod_struct Tryd.underlying35 hf
  have c3 : Tryd.prog.cellsOf 3 = 1 := by kernel_rfl
  have c4 : Tryd.prog.cellsOf 4 = 1 := by kernel_rfl
  have cB : Tryd.prog.cellsOf 32 = 1 := by kernel_rfl
  have cU : Tryd.prog.cellsOf 33 = 1 := by kernel_rfl
  have cC : Tryd.prog.cellsOf 27 = 3 := by kernel_rfl
  match cs, hl with
  | [c0, c1, c2, c3', c4', c5, c6, c7, c8, c9, c10, c11], _ =>
    match xs, hlen2 with
    | [y0, y1, y2, y3, y4, y5, y6, y7], _ =>
      have h0 : DataW.trod enc Tryd.prog W 0 (fun _ => true) true n 3 (([c0, c1, c2, c3', c4', c5, c6, c7, c8, c9, c10, c11].drop 0).take (Tryd.prog.cellsOf 3)) = some y0 := hg 0 _ rfl
      have h1 : DataW.trod enc Tryd.prog W 0 (fun _ => true) true n 4 (([c0, c1, c2, c3', c4', c5, c6, c7, c8, c9, c10, c11].drop 1).take (Tryd.prog.cellsOf 4)) = some y1 := hg 1 _ rfl
      have h2 : DataW.trod enc Tryd.prog W 0 (fun _ => true) true n 3 (([c0, c1, c2, c3', c4', c5, c6, c7, c8, c9, c10, c11].drop 2).take (Tryd.prog.cellsOf 3)) = some y2 := hg 2 _ rfl
      have h3 : DataW.trod enc Tryd.prog W 0 (fun _ => true) true n 3 (([c0, c1, c2, c3', c4', c5, c6, c7, c8, c9, c10, c11].drop 3).take (Tryd.prog.cellsOf 3)) = some y3 := hg 3 _ rfl
      have h4 : DataW.trod enc Tryd.prog W 0 (fun _ => true) true n 32 (([c0, c1, c2, c3', c4', c5, c6, c7, c8, c9, c10, c11].drop 4).take (Tryd.prog.cellsOf 32)) = some y4 := hg 4 _ rfl
      have h5 : DataW.trod enc Tryd.prog W 0 (fun _ => true) true n 33 (([c0, c1, c2, c3', c4', c5, c6, c7, c8, c9, c10, c11].drop 5).take (Tryd.prog.cellsOf 33)) = some y5 := hg 5 _ rfl
      have h6 : DataW.trod enc Tryd.prog W 0 (fun _ => true) true n 27 (([c0, c1, c2, c3', c4', c5, c6, c7, c8, c9, c10, c11].drop 6).take (Tryd.prog.cellsOf 27)) = some y6 := hg 6 _ rfl
      have h7 : DataW.trod enc Tryd.prog W 0 (fun _ => true) true n 27 (([c0, c1, c2, c3', c4', c5, c6, c7, c8, c9, c10, c11].drop 9).take (Tryd.prog.cellsOf 27)) = some y7 := hg 7 _ rfl
      rw [c3] at h0 h2 h3
      rw [c4] at h1
      rw [cB] at h4
      rw [cU] at h5
      rw [cC] at h6 h7
      obtain ⟨n0, e0, _, w0⟩ := DataW.trod_int Tryd.underlying3 (cs := [c0]) h0
      obtain ⟨n1, e1, _⟩ := DataW.trod_bool Tryd.underlying4 (cs := [c1]) h1
      obtain ⟨n2, e2, _, w2⟩ := DataW.trod_int Tryd.underlying3 (cs := [c2]) h2
      obtain ⟨n3, e3, _, w3⟩ := DataW.trod_int Tryd.underlying3 (cs := [c3']) h3
      obtain ⟨A, cap, bs, e4, s4⟩ := bytes_of (cs := [c4']) h4
      obtain ⟨n5, e5, _, w5⟩ := DataW.trod_int Tryd.underlying33 (cs := [c5]) h5
      obtain ⟨q6, e6, e7, e8, r6⟩ := claim_of (a := c6) (b := c7) (c := c8) h6
      obtain ⟨q9, e9, e10, e11, r9⟩ := claim_of (a := c9) (b := c10) (c := c11) h7
      simp at e0 e1 e2 e3 e4 e5
      subst e0 e1 e2 e3 e4 e5 e6 e7 e8 e9 e10 e11
      exact ⟨⟨n0, n1, n2, n3, A, cap, bs, n5, q6, q9⟩, rfl, s4, wf_i64 w0, wf_i64 w2, wf_i64 w3, (wf_u32 w5).1, (wf_u32 w5).2, r6.1, r6.2.1, r6.2.2, r9.1, r9.2.1, r9.2.2⟩
/-- A row of acts. -/
def Acts (w W : World) (A : Option Addr) (xs : List ActS) : Prop := RowOf w A 12 (fun a cs => cs = a.cells ∧ a.Ok W) xs
theorem acts_is {H : Type} {enc : TypeId × Value → H} {W : World} {base : Nat} {v : Value} {d : DataW H} {p : List MemPlace}
    (hv : Value.okWide Tryd.prog W .any base 22 v) (h : DataW.Trod enc Tryd.prog W 0 (fun _ => true) true 22 v d p) :
    ∃ A cap xs, v = .slice A (List.length xs) cap ∧ Acts W W A xs ∧ xs.length ≤ 9223372036854775807 := by
  obtain ⟨a0, len, cap, rfl⟩ := okWide_slice Tryd.underlying22 hv
  obtain ⟨fuel, hf⟩ := h
  obtain ⟨A, cap', xs, h1, h2, h3, h4, h5⟩ := row_is (α := ActS) 12 Tryd.underlying22 (by kernel_rfl) (by decide) (fun a cs => cs = a.cells ∧ a.Ok W) (fun cs n x hl ht => act_of hl ht) hf
  simp [Value.cells] at h1
  obtain ⟨rfl, rfl, rfl⟩ := h1
  exact ⟨_, _, xs, rfl, h2, h4⟩
end Go.Proofs.YtbpgeghenninnaaDoor
