/- A number that can be read has just the bytes that it is put as; bytes that come in read as bytes. Condition: none. -/
import Derived.Test.YtanjgobcfgmpfaaNils
import Derived.OpenShut
import Derived.ProofKit
import Derived.Deep.Slices
namespace Go.Proofs.Ytanjgobcfgmpfaa
open Go Go.ChangeShapes Go.WideShapes Go.RowKit
theorem uR_dec (bs : List UInt8) : ∀ (i m N : Nat) (l : List UInt8), uR bs i m = (N, l, 0) → ∃ n, N = m + n * 128 ^ i ∧ bs = encU n ++ l ∧ (0 < i → 0 < n) := by
  induction bs with
  | nil => intro i m N l h; simp [uR] at h
  | cons c t ih =>
    intro i m N l h
    have hc := UInt8.toNat_lt c
    rw [uR_cons] at h
    split at h
    · simp at h
    · rename_i hb
      split at h
      · rename_i h1
        simp only [Prod.mk.injEq, and_true] at h
        obtain ⟨rfl, rfl⟩ := h
        refine ⟨c.toNat, by rw [Nat.mod_eq_of_lt h1], ?_, by omega⟩
        rw [encU_small h1, UInt8.ofNat_toNat]
        rfl
      · rename_i h1
        obtain ⟨n, rfl, rfl, hp⟩ := ih _ _ _ _ h
        have hp' := hp (by omega)
        refine ⟨c.toNat % 128 + 128 * n, ?_, ?_, by omega⟩
        · rw [Nat.pow_succ, Nat.add_mul, Nat.mul_comm (128 ^ i) 128, ← Nat.mul_assoc n 128, Nat.mul_comm n 128]
          omega
        · have e1 : (c.toNat % 128 + 128 * n) % 128 + 128 = c.toNat := by omega
          have e2 : (c.toNat % 128 + 128 * n) / 128 = n := by omega
          rw [encU_big (n := c.toNat % 128 + 128 * n) (by omega), e1, e2, UInt8.ofNat_toNat]
          rfl
theorem uR_none (bs : List UInt8) : ∀ i n, (uR bs i n).2.2 ≠ 0 → (uR bs i n).2.1 = [] := by
  induction bs with
  | nil => intro i n _; rfl
  | cons c t ih =>
    intro i n h
    rw [uR_cons] at h ⊢
    split
    · rfl
    · rename_i hb
      rw [if_neg hb] at h
      split
      · rename_i hc
        rw [if_pos hc] at h
        exact absurd rfl h
      · rename_i hc
        rw [if_neg hc] at h
        exact ih _ _ h
theorem fold_unfold (n : Nat) (_ : n < 18446744073709551616) : foldF (unfoldF n) = n := by
  unfold unfoldF
  split
  · unfold foldF
    rw [if_pos (by omega)]
    omega
  · unfold foldF
    rw [if_neg (by omega)]
    omega
theorem unfold_rng (n : Nat) (h : n < 18446744073709551616) : -9223372036854775808 ≤ unfoldF n ∧ unfoldF n ≤ 9223372036854775807 := by
  unfold unfoldF
  split <;> omega
theorem wf_u8 {n : Int} (h : (Lit.int .u8 n).wf = true) : 0 ≤ n ∧ n ≤ 255 := by
  simpa [Lit.wf, IntKind.min, IntKind.max, IntKind.signed, IntKind.bits] using h
theorem bytes_is {H : Type} {enc : TypeId × Value → H} {W : World} {base : Nat} {v : Value} {d : DataW H} {p : List MemPlace}
    (hv : Value.okWide Try.prog W .any base 22 v) (h : DataW.Trod enc Try.prog W 0 (fun _ => true) true 22 v d p) :
    ∃ A cap bs, v = .slice A (List.length bs) cap ∧ Bts W A bs ∧ bs.length ≤ cap ∧ bs.length ≤ 9223372036854775807 := by
  obtain ⟨a0, len, cap, rfl⟩ := okWide_slice Try.underlying22 hv
  obtain ⟨fuel, hf⟩ := h
  rcases Go.Deep.open_slice Try.underlying22 hf with ⟨hcs, _⟩ | ⟨a, l, c, m, n, D, Pl, hcs, _, hl, hm, hmm, _, hi⟩
  · simp [Value.cells] at hcs
    obtain ⟨rfl, rfl, rfl⟩ := hcs
    exact ⟨none, 0, [], rfl, .inl rfl, Nat.le_refl _, by decide⟩
  · simp [Value.cells] at hcs
    obtain ⟨rfl, rfl, rfl⟩ := hcs
    have hm' : m = cap := by simpa using hmm
    subst hm'
    have c5 : Try.prog.cellsOf 5 = 1 := by kernel_rfl
    rw [c5] at hi
    unfold maxLen at hm
    by_cases h0 : len = 0
    · subst h0
      exact ⟨some a, m, [], rfl, .inl rfl, Nat.zero_le _, by decide⟩
    have key : ∀ i, i < len → ∃ x : UInt8, W.cell? (a.add i) = some (bv x) := by
      intro i hil
      obtain ⟨cs', hcell, ht⟩ := hi i (by omega)
      obtain ⟨_, hl1, hc⟩ := World.cells?_some hcell
      obtain ⟨z, e0, _, w0⟩ := DataW.trod_int Try.underlying5 ht
      obtain ⟨z0, z1⟩ := wf_u8 w0
      subst e0
      have hc0 := hc 0 (by decide)
      have ea : (a.add (i * 1)).add 0 = a.add i := by
        rw [Nat.mul_one]
        simp [Addr.add]
      rw [ea] at hc0
      refine ⟨UInt8.ofNat z.toNat, ?_⟩
      rw [hc0]
      unfold bv
      rw [ofNat_toNat_lt (by omega)]
      simp
      omega
    obtain ⟨b, off, spot⟩ := a
    obtain ⟨x, k0⟩ := key 0 (by omega)
    have hspot : spot = none := by
      have := World.cell?_spot k0
      simpa [Addr.add] using this
    subst hspot
    have hb : b < W.heap.size := by
      have := block_lt_of_cell k0
      simpa [Addr.add] using this
    have key' : ∀ i, i < len → ∃ x : UInt8, W.cell? ⟨b, off + i, none⟩ = some (bv x) := fun i hi => by
      obtain ⟨x, h⟩ := key i hi
      rw [add_off] at h
      exact ⟨x, h⟩
    refine ⟨some ⟨b, off, none⟩, m, (List.range len).map (fun i => if h : i < len then (key' i h).choose else 0), by simp, .inr ⟨b, off, rfl, hb, fun j x hx => ?_⟩, by simpa using hl, by simp; omega⟩
    rw [List.getElem?_map] at hx
    obtain ⟨j', hj', rfl⟩ := Option.map_eq_some_iff.1 hx
    have hj : j < len ∧ j' = j := by
      obtain ⟨h1, h2⟩ := List.getElem?_eq_some_iff.1 hj'
      simp at h1 h2
      exact ⟨h1, h2.symm⟩
    obtain ⟨hj, rfl⟩ := hj
    rw [dif_pos hj]
    exact (key' j' hj).choose_spec
end Go.Proofs.Ytanjgobcfgmpfaa
