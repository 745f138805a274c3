/- How the law's argument opens: a slice of bytes; the table as the rows list it. Condition: the list is met. -/
import Derived.Test.YtaipjbljmkickaaDoorAwake
import Derived.Test.YtaipjbljmkickaaDoorRows
import Derived.Test.YtaipjbljmkickaaDoorLaid
import Derived.OpenShut
import Derived.ProofKit
import Derived.Deep.Slices
namespace Go.Proofs.YtaipjbljmkickaaDoor
open Go Go.ChangeShapes Go.WideShapes Go.RowKit
theorem ofNat_toNat_lt {n : Nat} (h : n < 256) : (UInt8.ofNat n).toNat = n := by
  rw [UInt8.toNat_ofNat']
  omega
theorem wf_u8 {n : Int} (h : (Lit.int .u8 n).wf = true) : 0 ≤ n ∧ n ≤ 255 := by
  simpa [Lit.wf, IntKind.min, IntKind.max, IntKind.signed, IntKind.bits] using h
theorem bytes_is {H : Type} {enc : TypeId × Value → H} {W : World} {base : Nat} {v : Value} {d : DataW H} {p : List MemPlace}
    (hv : Value.okWide Tryd.prog W .any base 22 v) (h : DataW.Trod enc Tryd.prog W 0 (fun _ => true) true 22 v d p) :
    ∃ A cap bs, v = .slice A (List.length bs) cap ∧ Bts W A bs ∧ bs.length ≤ cap ∧ bs.length ≤ 9223372036854775807 ∧ (A = none → cap = 0) := by
  obtain ⟨a0, len, cap, rfl⟩ := okWide_slice Tryd.underlying22 hv
  obtain ⟨fuel, hf⟩ := h
  rcases Go.Deep.open_slice Tryd.underlying22 hf with ⟨hcs, _⟩ | ⟨a, l, c, m, n, D, Pl, hcs, _, hl, hm, hmm, _, hi⟩
  · simp [Value.cells] at hcs
    obtain ⟨rfl, rfl, rfl⟩ := hcs
    exact ⟨none, 0, [], rfl, .inl rfl, Nat.le_refl _, by decide, fun _ => rfl⟩
  · simp [Value.cells] at hcs
    obtain ⟨rfl, rfl, rfl⟩ := hcs
    have hm' : m = cap := by simpa using hmm
    subst hm'
    have c5 : Tryd.prog.cellsOf 5 = 1 := by kernel_rfl
    rw [c5] at hi
    unfold maxLen at hm
    by_cases h0 : len = 0
    · subst h0
      exact ⟨some a, m, [], rfl, .inl rfl, Nat.zero_le _, by decide, fun h => by cases h⟩
    have key : ∀ i, i < len → ∃ x : UInt8, W.cell? (a.add i) = some (bv x) := by
      intro i hil
      obtain ⟨cs', hcell, ht⟩ := hi i (by omega)
      obtain ⟨_, hl1, hc⟩ := World.cells?_some hcell
      obtain ⟨z, e0, _, w0⟩ := DataW.trod_int Tryd.underlying5 ht
      obtain ⟨z0, z1⟩ := wf_u8 w0
      subst e0
      have hc0 := hc 0 (by decide)
      have ea : (a.add (i * 1)).add 0 = a.add i := by
        rw [Nat.mul_one]
        simp [Addr.add]
      rw [ea] at hc0
      refine ⟨UInt8.ofNat z.toNat, ?_⟩
      rw [hc0]
      unfold bv
      rw [ofNat_toNat_lt (by omega)]
      simp
      omega
    obtain ⟨b, off, spot⟩ := a
    obtain ⟨x, k0⟩ := key 0 (by omega)
    have hspot : spot = none := by
      have := World.cell?_spot k0
      simpa [Addr.add] using this
    subst hspot
    have hb : b < W.heap.size := by
      have := block_lt_of_cell k0
      simpa [Addr.add] using this
    have key' : ∀ i, i < len → ∃ x : UInt8, W.cell? ⟨b, off + i, none⟩ = some (bv x) := fun i hi => by
      obtain ⟨x, h⟩ := key i hi
      rw [add_off] at h
      exact ⟨x, h⟩
    refine ⟨some ⟨b, off, none⟩, m, (List.range len).map (fun i => if h : i < len then (key' i h).choose else 0), by simp, .inr ⟨b, off, rfl, hb, fun j x hx => ?_⟩, by simpa using hl, by simp; omega, fun h => by cases h⟩
    rw [List.getElem?_map] at hx
    obtain ⟨j', hj', rfl⟩ := Option.map_eq_some_iff.1 hx
    have hj : j < len ∧ j' = j := by
      obtain ⟨h1, h2⟩ := List.getElem?_eq_some_iff.1 hj'
      simp at h1 h2
      exact ⟨h1, h2.symm⟩
    obtain ⟨hj, rfl⟩ := hj
    rw [dif_pos hj]
    exact (key' j' hj).choose_spec
theorem scanS_few (m : Nat) : ∀ bs : List UInt8, bs.length = m → 8 * (scanS bs).1.length ≤ m := by
  induction m using Nat.strongRecOn with
  | _ m ih =>
    intro bs hm
    by_cases h0 : (nextS bs).1 = 0
    · obtain ⟨n, hn⟩ : ∃ n, nextS bs = (0, n) := ⟨_, by rw [← h0]⟩
      have := nextS_yes hn
      rw [scanS_yes hn]
      have := ih (m - (n + 8)) (by omega) (bs.drop (n + 8)) (by simp; omega)
      simp only [List.length_cons]
      omega
    · rw [scanS_no h0]
      simp
theorem gH : Tryd.prog.globalNamed "corvee/frame.halves" = some 0 := by kernel_rfl
theorem tH : (Tryd.prog.globals[0]?).map (·.type) = some 44 := by kernel_rfl
theorem cH : plainCells (H := Unit) Tryd.prog 8 44 Rows.laid_corvee_frame_halves = some halfCells := by kernel_rfl
theorem tab_of {W : World} (h : laidMetH Tryd.prog [("corvee/frame.halves", Rows.laid_corvee_frame_halves)] W) : Tab W := by
  have h' : laidMet Tryd.prog [("corvee/frame.halves", Rows.laid_corvee_frame_halves)] W := h
  obtain ⟨ps, hv, _⟩ := h'
  exact (laid_head 8 gH tH cH hv).1
theorem below_some {W w : World} {b : Nat} (hb : Below W.heap.size W w) (h : b < W.heap.size) : w.heap[b]? = W.heap[b]? := hb.block b h
end Go.Proofs.YtaipjbljmkickaaDoor
