/- A slice of signs that came in, opened: nil, or a row of cells below the old heap. Condition: none. -/
import Derived.Test.YtlfbooillhleoaaDoorKeep
import Derived.ProofKit
namespace Go.Proofs.YtlfbooillhleoaaDoor
open Go Go.ChangeShapes Go.WideShapes Go.RowKit
/-- A slice of integers that came in: nil, or a row of cells below the old heap. -/
def Ints (w : World) (B : Nat) (A : Option Addr) (len : Nat) (zs : List Int) : Prop :=
  len = 0 ∨ ∃ b off, A = some ⟨b, off, none⟩ ∧ b < B ∧ len ≤ zs.length ∧ len ≤ 9223372036854775807 ∧ ∀ i, i < len → w.cell? ⟨b, off + i, none⟩ = some (.int .i64 (zs.getD i 0))
theorem ints_len {w : World} {B : Nat} {A : Option Addr} {len : Nat} {zs : List Int} (h : Ints w B A len zs) : len ≤ 9223372036854775807 := by
  rcases h with rfl | ⟨_, _, _, _, _, h, _⟩ <;> omega
theorem ints_at {w : World} {B : Nat} {A : Option Addr} {len k : Nat} {zs : List Int} (h : Ints w B A len zs) (hk : k < len) : ∃ b off, A = some ⟨b, off, none⟩ ∧ b < B ∧ w.cell? ⟨b, off + k, none⟩ = some (.int .i64 (zs.getD k 0)) := by
  rcases h with rfl | ⟨b, off, rfl, hb, _, _, hc⟩
  · omega
  · exact ⟨b, off, rfl, hb, hc k hk⟩
theorem heap_new2 (w : World) (a b c : Obj) : (((w.alloc a).alloc b).alloc c).heap[w.heap.size + 1 + 1]? = some c := by
  have := heap_new ((w.alloc a).alloc b) c
  simpa using this
theorem open_signs {H : Type} {enc : TypeId × Value → H} {W : World} {base : Nat} {v : Value} {d : DataW H} {p : List MemPlace}
    (hv : Value.okWide Tryd.prog W .any base 38 v) (h : DataW.Trod enc Tryd.prog W 0 (fun _ => true) true 38 v d p) :
    ∃ A len cap zs, v = .slice A len cap ∧ Ints W W.heap.size A len zs := by
  obtain ⟨a0, len, cap, rfl⟩ := okWide_slice Tryd.underlying38 hv
  have k0 := h
  obtain ⟨fuel, hf⟩ := h
  rcases open_ints Tryd.underlying38 Tryd.underlying25 (by kernel_rfl) hf with ⟨hcs, _⟩ | ⟨x, l, c, zs, hcs, _, hl, hm, hz, _, hcell, _⟩
  · simp [Value.cells] at hcs
    obtain ⟨rfl, rfl, rfl⟩ := hcs
    exact ⟨_, _, _, [], rfl, .inl rfl⟩
  · simp [Value.cells] at hcs
    obtain ⟨rfl, rfl, rfl⟩ := hcs
    refine ⟨_, _, _, zs, rfl, ?_⟩
    obtain ⟨b, off, spot⟩ := x
    have hzc : zs.length = cap := by simpa using hz
    by_cases h0 : zs.length = 0
    · exact .inl (by omega)
    · have hc := hcell 0 (by omega)
      have hspot : spot = none := by simpa [Addr.add] using World.cell?_spot hc
      subst hspot
      unfold maxLen at hm
      refine .inr ⟨b, off, rfl, ?_, by omega, by omega, fun i hi => ?_⟩
      · have := block_lt_of_cell hc
        simpa [Addr.add] using this
      · have := hcell i (by omega)
        have e : (⟨b, off, none⟩ : Addr).add i = ⟨b, off + i, none⟩ := by
          unfold Addr.add
          split <;> simp_all
        rw [e] at this
        exact this
end Go.Proofs.YtlfbooillhleoaaDoor
