/- A row of words that comes in; what is read of what words are put as. Condition: none. -/
import Derived.Test.YtanjgobcfgmpfaaCutMath
import Derived.Test.YtanjgobcfgmpfaaSame
namespace Go.Proofs.Ytanjgobcfgmpfaa
open Go Go.ChangeShapes Go.WideShapes Go.RowKit
/-- A word: its number, its number of either sign, its text, its row. -/
structure Wd where
  n : Nat
  z : Int
  s : ByteArray
  A : Option Addr
  cap : Nat
  zs : List Int
def Wd.ok (W : World) (x : Wd) : Prop := x.n < 18446744073709551616 ∧ (-9223372036854775808 ≤ x.z ∧ x.z ≤ 9223372036854775807) ∧ x.s.size ≤ 9223372036854775807 ∧ Its W x.A x.zs ∧ x.zs.length ≤ x.cap ∧ x.zs.length ≤ 9223372036854775807 ∧ ∀ z ∈ x.zs, -9223372036854775808 ≤ z ∧ z ≤ 9223372036854775807
def Wd.at (w : World) (b o : Nat) (x : Wd) : Prop := w.cell? ⟨b, o, none⟩ = some (.int .u64 x.n) ∧ w.cell? ⟨b, o + 1, none⟩ = some (.int .i64 x.z) ∧ w.cell? ⟨b, o + 2, none⟩ = some (.string x.s) ∧ w.cell? ⟨b, o + 3, none⟩ = some (.slice x.A x.zs.length x.cap)
/-- The slice at A reads as these words. -/
def Wds (W : World) (A : Option Addr) (ws : List Wd) : Prop :=
  ws = [] ∨ ∃ b off, A = some ⟨b, off, none⟩ ∧ b < W.heap.size ∧ ∀ (j : Nat) x, ws[j]? = some x → x.ok W ∧ x.at W b (off + j * 4)
theorem Wd.at.below {w w' : World} {b o : Nat} {x : Wd} (h : x.at w b o) (hb : Below w.heap.size w w') (hlt : b < w.heap.size) : x.at w' b o := by
  obtain ⟨h0, h1, h2, h3⟩ := h
  refine ⟨?_, ?_, ?_, ?_⟩
  · rw [hb.cell (p := ⟨b, o, none⟩) hlt]; exact h0
  · rw [hb.cell (p := ⟨b, o + 1, none⟩) hlt]; exact h1
  · rw [hb.cell (p := ⟨b, o + 2, none⟩) hlt]; exact h2
  · rw [hb.cell (p := ⟨b, o + 3, none⟩) hlt]; exact h3
theorem add_add (b off i j : Nat) : ((⟨b, off, none⟩ : Addr).add i).add j = ⟨b, off + i + j, none⟩ := by rw [add_off, add_off]
theorem wds_is {H : Type} {enc : TypeId × Value → H} {W : World} {base : Nat} {v : Value} {d : DataW H} {p : List MemPlace}
    (hv : Value.okWide Try.prog W .any base 54 v) (h : DataW.Trod enc Try.prog W 0 (fun _ => true) true 54 v d p) :
    ∃ A cap ws, v = .slice A (List.length ws) cap ∧ Wds W A ws ∧ ws.length ≤ cap ∧ ws.length ≤ 9223372036854775807 := by
  obtain ⟨a0, len, cap, rfl⟩ := okWide_slice Try.underlying54 hv
  obtain ⟨fuel, hf⟩ := h
  rcases Go.Deep.open_slice Try.underlying54 hf with ⟨hcs, _⟩ | ⟨a, l, c, m, n, D, Pl, hcs, _, hl, hm, hmm, _, hi⟩
  · simp [Value.cells] at hcs
    obtain ⟨rfl, rfl, rfl⟩ := hcs
    exact ⟨none, 0, [], rfl, .inl rfl, Nat.le_refl _, by decide⟩
  · simp [Value.cells] at hcs
    obtain ⟨rfl, rfl, rfl⟩ := hcs
    have hm' : m = cap := by simpa using hmm
    subst hm'
    rw [Try.words_cells.1] at hi
    unfold maxLen at hm
    by_cases h0 : len = 0
    · subst h0
      exact ⟨some a, m, [], rfl, .inl rfl, Nat.zero_le _, by decide⟩
    have key : ∀ i, i < len → ∃ x : Wd, x.ok W ∧ W.cell? (a.add (i * 4)) = some (.int .u64 x.n) ∧ W.cell? ((a.add (i * 4)).add 1) = some (.int .i64 x.z) ∧ W.cell? ((a.add (i * 4)).add 2) = some (.string x.s) ∧ W.cell? ((a.add (i * 4)).add 3) = some (.slice x.A x.zs.length x.cap) := by
      intro i hil
      obtain ⟨cs', hcell, ht⟩ := hi i (by omega)
      obtain ⟨_, hl1, hc⟩ := World.cells?_some hcell
      obtain ⟨n, z, s, A, cap, zs, e0, r⟩ := words_is ht
      subst e0
      have hc0 := hc 0 (by simp)
      have hc1 := hc 1 (by simp)
      have hc2 := hc 2 (by simp)
      have hc3 := hc 3 (by simp)
      refine ⟨⟨n, z, s, A, cap, zs⟩, r, ?_, hc1, hc2, hc3⟩
      simpa [Addr.add] using hc0
    obtain ⟨b, off, spot⟩ := a
    obtain ⟨x, _, k0, _⟩ := key 0 (by omega)
    have hspot : spot = none := by
      have := World.cell?_spot k0
      simpa [Addr.add] using this
    subst hspot
    have hb : b < W.heap.size := by
      have := block_lt_of_cell k0
      simpa [Addr.add] using this
    have key' : ∀ i, i < len → ∃ x : Wd, x.ok W ∧ x.at W b (off + i * 4) := fun i hi => by
      obtain ⟨x, h, r0, r1, r2, r3⟩ := key i hi
      rw [add_add] at r1 r2 r3
      rw [add_off] at r0
      exact ⟨x, h, r0, r1, r2, r3⟩
    refine ⟨some ⟨b, off, none⟩, m, (List.range len).map (fun i => if h : i < len then (key' i h).choose else x), by simp, .inr ⟨b, off, rfl, hb, fun j x hx => ?_⟩, by simpa using hl, by simp; omega⟩
    rw [List.getElem?_map] at hx
    obtain ⟨j', hj', rfl⟩ := Option.map_eq_some_iff.1 hx
    have hj : j < len ∧ j' = j := by
      obtain ⟨h1, h2⟩ := List.getElem?_eq_some_iff.1 hj'
      simp at h1 h2
      exact ⟨h1, h2.symm⟩
    obtain ⟨hj, rfl⟩ := hj
    rw [dif_pos hj]
    exact (key' j' hj).choose_spec
theorem unfold_fold {z : Int} (h : -9223372036854775808 ≤ z ∧ z ≤ 9223372036854775807) : unfoldF (foldF z) = z := by
  unfold foldF
  split
  · unfold unfoldF
    rw [if_pos (by omega)]
    omega
  · unfold unfoldF
    rw [if_neg (by omega)]
    omega
theorem takeT_enc (m : Nat) (s l : List UInt8) (hm : s.length ≤ m) (h : s.length < 18446744073709551616) : takeT m (encU s.length ++ (s ++ l)) 0 = (s, l, 0) := by
  have e := takeT_cut m ((encU s.length ++ (s ++ l)).length) s l hm h
  rw [List.take_length, if_neg (by simp only [List.length_append]; omega)] at e
  rw [e, List.take_of_length_le (by simp only [List.length_append]; omega)]
theorem rowI_enc (zs : List Int) (l : List UInt8) : ∀ (xs : List Int), (∀ z ∈ zs, -9223372036854775808 ≤ z ∧ z ≤ 9223372036854775807) → rowI xs zs.length (encR zs ++ l) 0 = (xs ++ zs, l, 0) := by
  induction zs with
  | nil => intro xs _; simp [encR, rowI]
  | cons z zs ih =>
    intro xs hr
    have e : encR (z :: zs) = encU (foldF z) ++ encR zs := by simp [encR]
    have hz := foldF_lt (hr z List.mem_cons_self)
    rw [e, List.length_cons, rowI, List.append_assoc, takeU_enc _ _ hz, if_pos rfl]
    simp only
    rw [unfold_fold (hr z List.mem_cons_self), ih _ (fun y hy => hr y (List.mem_cons_of_mem _ hy))]
    simp
theorem takeI_enc (m : Nat) (zs : List Int) (l : List UInt8) (hm : zs.length ≤ m) (h : zs.length < 18446744073709551616) (hr : ∀ z ∈ zs, -9223372036854775808 ≤ z ∧ z ≤ 9223372036854775807) : takeI m (encU zs.length ++ (encR zs ++ l)) 0 = (zs, l, 0) := by
  have e : takeL m (encU zs.length ++ (encR zs ++ l)) 0 = (zs.length, encR zs ++ l, 0) := by
    unfold takeL
    rw [takeU_enc _ _ h, if_neg (by simp; omega)]
  unfold takeI
  rw [e]
  simp only
  rw [rowI_enc zs l [] hr]
  simp
/-- What a word is put as. -/
def encW (x : Wd) : List UInt8 := encU x.n ++ (encU (foldF x.z) ++ (encU x.s.size ++ (x.s.data.toList ++ (encU x.zs.length ++ encR x.zs))))
def encWs (ws : List Wd) : List UInt8 := (ws.map encW).flatten
theorem encWs_snoc (ws : List Wd) (x : Wd) : encWs (ws ++ [x]) = encWs ws ++ encW x := by simp [encWs]
end Go.Proofs.Ytanjgobcfgmpfaa
