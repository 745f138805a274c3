/- A slice of slices of bytes as it comes in; an append of what reads as bytes. Condition: none. -/
import Derived.Test.YtaipjbljmkickaaDoorOpen
namespace Go.Proofs.YtaipjbljmkickaaDoor
open Go Go.ChangeShapes Go.WideShapes Go.RowKit
theorem bytes_of {H : Type} {enc : TypeId × Value → H} {W : World} {fuel : Nat} {cs : List Value} {x : DataW H × List MemPlace}
    (hf : DataW.trod enc Tryd.prog W 0 (fun _ => true) true fuel 22 cs = some x) : ∃ A cap bs, cs = [.slice A (List.length bs) cap] ∧ Sl W A cap bs ∧ bs.length ≤ 9223372036854775807 := by
  rcases Go.Deep.open_slice Tryd.underlying22 hf with ⟨hcs, _⟩ | ⟨a, l, c, m, n, D, Pl, hcs, _, hl, hm, hmm, _, hi⟩
  · exact ⟨none, 0, [], hcs, ⟨.inl rfl, Nat.le_refl _, fun _ => rfl⟩, by decide⟩
  · have hm' : m = c := by simpa using hmm
    subst hm'
    have c5 : Tryd.prog.cellsOf 5 = 1 := by kernel_rfl
    rw [c5] at hi
    unfold maxLen at hm
    by_cases h0 : l = 0
    · subst h0
      exact ⟨some a, m, [], hcs, ⟨.inl rfl, Nat.zero_le _, fun h => by cases h⟩, by decide⟩
    have key : ∀ i, i < l → ∃ x : UInt8, W.cell? (a.add i) = some (bv x) := by
      intro i hil
      obtain ⟨cs', hcell, ht⟩ := hi i (by omega)
      obtain ⟨_, hl1, hc⟩ := World.cells?_some hcell
      obtain ⟨z, e0, _, w0⟩ := DataW.trod_int Tryd.underlying5 ht
      obtain ⟨z0, z1⟩ := wf_u8 w0
      subst e0
      have hc0 := hc 0 (by decide)
      have ea : (a.add (i * 1)).add 0 = a.add i := by
        rw [Nat.mul_one]
        simp [Addr.add]
      rw [ea] at hc0
      refine ⟨UInt8.ofNat z.toNat, ?_⟩
      rw [hc0]
      unfold bv
      rw [ofNat_toNat_lt (by omega)]
      simp
      omega
    obtain ⟨b, off, spot⟩ := a
    obtain ⟨x, k0⟩ := key 0 (by omega)
    have hspot : spot = none := by
      have := World.cell?_spot k0
      simpa [Addr.add] using this
    subst hspot
    have hb : b < W.heap.size := by
      have := block_lt_of_cell k0
      simpa [Addr.add] using this
    have key' : ∀ i, i < l → ∃ x : UInt8, W.cell? ⟨b, off + i, none⟩ = some (bv x) := fun i hi => by
      obtain ⟨x, h⟩ := key i hi
      rw [add_off] at h
      exact ⟨x, h⟩
    refine ⟨some ⟨b, off, none⟩, m, (List.range l).map (fun i => if h : i < l then (key' i h).choose else 0), by simpa using hcs, ⟨.inr ⟨b, off, rfl, hb, fun j x hx => ?_⟩, by simpa using hl, fun h => by cases h⟩, by simp; omega⟩
    rw [List.getElem?_map] at hx
    obtain ⟨j', hj', rfl⟩ := Option.map_eq_some_iff.1 hx
    have hj : j < l ∧ j' = j := by
      obtain ⟨h1, h2⟩ := List.getElem?_eq_some_iff.1 hj'
      simp at h1 h2
      exact ⟨h1, h2.symm⟩
    obtain ⟨hj, rfl⟩ := hj
    rw [dif_pos hj]
    exact (key' j' hj).choose_spec
/-- The slice at A holds slices that read as these bytes, as they may come in. -/
def RdS (w : World) (A : Option Addr) (xs : List (List UInt8)) : Prop :=
  xs = [] ∨ ∃ b off, A = some ⟨b, off, none⟩ ∧ b < w.heap.size ∧ ∀ (j : Nat) x, xs[j]? = some x → ∃ A' c', w.cell? ⟨b, off + j, none⟩ = some (.slice A' x.length c') ∧ Sl w A' c' x ∧ x.length ≤ 9223372036854775807
theorem RdS.rd {w : World} {A : Option Addr} {xs : List (List UInt8)} (h : RdS w A xs) : Rd w A xs := by
  rcases h with h | ⟨b, off, h1, h2, h3⟩
  · exact .inl h
  · refine .inr ⟨b, off, h1, h2, fun j x hx => ?_⟩
    obtain ⟨A', c', hc, hs, _⟩ := h3 j x hx
    exact ⟨A', c', hc, hs.1⟩
theorem rows_is {H : Type} {enc : TypeId × Value → H} {W : World} {base : Nat} {v : Value} {d : DataW H} {p : List MemPlace}
    (hv : Value.okWide Tryd.prog W .any base 34 v) (h : DataW.Trod enc Tryd.prog W 0 (fun _ => true) true 34 v d p) :
    ∃ A cap xs, v = .slice A (List.length xs) cap ∧ RdS W A xs ∧ xs.length ≤ 9223372036854775807 := by
  obtain ⟨a0, len, cap, rfl⟩ := okWide_slice Tryd.underlying34 hv
  obtain ⟨fuel, hf⟩ := h
  rcases Go.Deep.open_slice Tryd.underlying34 hf with ⟨hcs, _⟩ | ⟨a, l, c, m, n, D, Pl, hcs, _, hl, hm, hmm, _, hi⟩
  · simp [Value.cells] at hcs
    obtain ⟨rfl, rfl, rfl⟩ := hcs
    exact ⟨none, 0, [], rfl, .inl rfl, by decide⟩
  · simp [Value.cells] at hcs
    obtain ⟨rfl, rfl, rfl⟩ := hcs
    have hm' : m = cap := by simpa using hmm
    subst hm'
    have c22 : Tryd.prog.cellsOf 22 = 1 := by kernel_rfl
    rw [c22] at hi
    unfold maxLen at hm
    by_cases h0 : len = 0
    · subst h0
      exact ⟨some a, m, [], rfl, .inl rfl, by decide⟩
    have key : ∀ i, i < len → ∃ (x : List UInt8) (A' : Option Addr) (c' : Nat), W.cell? (a.add i) = some (.slice A' x.length c') ∧ Sl W A' c' x ∧ x.length ≤ 9223372036854775807 := by
      intro i hil
      obtain ⟨cs', hcell, ht⟩ := hi i (by omega)
      obtain ⟨_, hl1, hc⟩ := World.cells?_some hcell
      obtain ⟨A', c', x, rfl, hs, hx⟩ := bytes_of ht
      have hc0 := hc 0 (by decide)
      have ea : (a.add (i * 1)).add 0 = a.add i := by
        rw [Nat.mul_one]
        simp [Addr.add]
      rw [ea] at hc0
      exact ⟨x, A', c', hc0, hs, hx⟩
    obtain ⟨b, off, spot⟩ := a
    obtain ⟨x, _, _, k0, _⟩ := key 0 (by omega)
    have hspot : spot = none := by
      have := World.cell?_spot k0
      simpa [Addr.add] using this
    subst hspot
    have hb : b < W.heap.size := by
      have := block_lt_of_cell k0
      simpa [Addr.add] using this
    have key' : ∀ i, i < len → ∃ (x : List UInt8) (A' : Option Addr) (c' : Nat), W.cell? ⟨b, off + i, none⟩ = some (.slice A' x.length c') ∧ Sl W A' c' x ∧ x.length ≤ 9223372036854775807 := fun i hi => by
      obtain ⟨x, A', c', h, r⟩ := key i hi
      rw [add_off] at h
      exact ⟨x, A', c', h, r⟩
    refine ⟨some ⟨b, off, none⟩, m, (List.range len).map (fun i => if h : i < len then (key' i h).choose else []), by simp, .inr ⟨b, off, rfl, hb, fun j x hx => ?_⟩, by simp; omega⟩
    rw [List.getElem?_map] at hx
    obtain ⟨j', hj', rfl⟩ := Option.map_eq_some_iff.1 hx
    have hj : j < len ∧ j' = j := by
      obtain ⟨h1, h2⟩ := List.getElem?_eq_some_iff.1 hj'
      simp at h1 h2
      exact ⟨h1, h2.symm⟩
    obtain ⟨hj, rfl⟩ := hj
    rw [dif_pos hj]
    exact (key' j' hj).choose_spec
theorem own_sl {w : World} {B : Nat} {v : Value} {bs : List UInt8} (h : Own w B v bs) : ∃ A cap, v = .slice A bs.length cap ∧ Sl w A cap bs := by
  have h' := h
  obtain ⟨hl, ⟨rfl, h0⟩ | ⟨g, cap, cur, rfl, hb, hh, hn, r⟩⟩ := h
  · obtain rfl : bs = [] := List.eq_nil_of_length_eq_zero h0
    exact ⟨none, 0, rfl, .inl rfl, Nat.le_refl _, fun _ => rfl⟩
  · obtain ⟨A, c, he, hb, hc, _⟩ := h'.is
    cases he
    exact ⟨_, _, rfl, hb, hc, fun h => by cases h⟩
theorem wpList_append_sl {w : World} {ops : Array Oper} {rest : List Oper} {o : Oper} {a : Act} {Q : Exit → Act → World → Prop} (hgd : o.guard = none) (s x : Operand)
    (ho : o.op = .call { callee := .builtin .append, args := #[s, x], argTypes := #[22, 22] }) (base : Nat) (v : Value) (xs : List UInt8) (hs : a.eval s = v) (hown : Own w base v xs)
    (A : Option Addr) (cap n : Nat) (bs : List UInt8) (hx : a.eval x = .slice A n cap) (hn : n = bs.length) (hsl : Sl w A cap bs) (h63 : xs.length + n ≤ 1099511627776) (hbase : base ≤ w.heap.size)
    (h : ∀ v' w', Own w' base v' (xs ++ bs) → w.grownBy w' v.ownBlock → wpList Tryd.prog ops Q rest (a.put o.dst v') w') : wpList Tryd.prog ops Q (o :: rest) a w := by
  obtain ⟨i0, hi, hz0, hz1, hz2⟩ := info_parts Tryd.info5
  subst hn
  obtain ⟨h1, h2, h3⟩ := hsl
  cases A with
  | none =>
    obtain rfl := h3 rfl
    obtain rfl : bs = [] := List.eq_nil_of_length_eq_zero (by omega)
    refine wpList_append_own_none hgd s x 22 ho base 5 i0 1 Tryd.underlying22 hi v xs.length (xs.map bv) hs hown hx ?_
    exact h v w (by simpa using hown) (grown_below (Below.refl _ _) _)
  | some ad =>
    refine wpList_append_own w hgd s x 22 ho base 5 i0 (.int .u8 0) 1 1 Tryd.underlying22 hi hz0 hz1 hz2 rfl (by decide) v xs.length (xs.map bv) hs hown ad bs.length cap (bs.map bv) hx (by simp) (bts_cells h1) (bv_cells _) (by unfold maxLen; omega) (by omega) hbase ?_
    intro v' w' ho' hg _
    exact h v' w' (by simpa [Own] using ho') hg
theorem scanS_all (behind : List UInt8) (hb : behind.length < 8) (xs : List (List UInt8)) : (∀ x ∈ xs, x.length ≤ 65536) → scanS ((xs.map frameB).flatten ++ behind) = (xs, ((xs.map frameB).flatten).length) := by
  induction xs with
  | nil => intro _; simpa using scanS_short hb
  | cons x xs ih =>
    intro h
    have e : ((x :: xs).map frameB).flatten ++ behind = frameB x ++ ((xs.map frameB).flatten ++ behind) := by simp
    rw [e, scanS_frame _ _ (h x List.mem_cons_self), ih fun y hy => h y (List.mem_cons_of_mem _ hy)]
    simp [frameB_len]
theorem flat_len (xs : List (List UInt8)) : (∀ x ∈ xs, x.length ≤ 500) → ((xs.map frameB).flatten).length ≤ 508 * xs.length := by
  induction xs with
  | nil => intro _; simp
  | cons x xs ih =>
    intro h
    have h1 := ih fun y hy => h y (List.mem_cons_of_mem _ hy)
    have h2 := h x List.mem_cons_self
    simp only [List.map_cons, List.flatten_cons, List.length_append, frameB_len, List.length_cons]
    omega
end Go.Proofs.YtaipjbljmkickaaDoor
