/- A word of numbers, a text and a row that comes in; what is read of a strict prefix of what they are put as. Condition: none. -/
import Derived.Test.YtanjgobcfgmpfaaRInts
import Derived.Test.YtanjgobcfgmpfaaOneMath
namespace Go.Proofs.Ytanjgobcfgmpfaa
open Go Go.ChangeShapes Go.WideShapes Go.RowKit
theorem wf_i64 {n : Int} (h : (Lit.int .i64 n).wf = true) : -9223372036854775808 ≤ n ∧ n ≤ 9223372036854775807 := by
  simpa [Lit.wf, IntKind.min, IntKind.max, IntKind.signed, IntKind.bits] using h
theorem wf_u64 {n : Int} (h : (Lit.int .u64 n).wf = true) : 0 ≤ n ∧ n ≤ 18446744073709551615 := by
  simpa [Lit.wf, IntKind.min, IntKind.max, IntKind.signed, IntKind.bits] using h
theorem ints_is {H : Type} {enc : TypeId × Value → H} {W : World} {cs : List Value} {fuel : Nat} {x : DataW H × List MemPlace}
    (hf : DataW.trod enc Try.prog W 0 (fun _ => true) true fuel 24 cs = some x) :
    ∃ A cap zs, cs = [.slice A (List.length zs) cap] ∧ Its W A zs ∧ zs.length ≤ cap ∧ zs.length ≤ 9223372036854775807 ∧ ∀ z ∈ zs, -9223372036854775808 ≤ z ∧ z ≤ 9223372036854775807 := by
  rcases Go.Deep.open_slice Try.underlying24 hf with ⟨rfl, _⟩ | ⟨a, len, c, m, n, D, Pl, rfl, _, hl, hm, hmm, _, hi⟩
  · exact ⟨none, 0, [], rfl, .inl rfl, Nat.le_refl _, by decide, by simp⟩
  · have hm' : m = c := by simpa using hmm
    subst hm'
    have c5 : Try.prog.cellsOf 3 = 1 := by kernel_rfl
    rw [c5] at hi
    unfold maxLen at hm
    by_cases h0 : len = 0
    · subst h0
      exact ⟨some a, m, [], rfl, .inl rfl, Nat.zero_le _, by decide, by simp⟩
    have key : ∀ i, i < len → ∃ z : Int, W.cell? (a.add i) = some (.int .i64 z) ∧ -9223372036854775808 ≤ z ∧ z ≤ 9223372036854775807 := by
      intro i hil
      obtain ⟨cs', hcell, ht⟩ := hi i (by omega)
      obtain ⟨_, hl1, hc⟩ := World.cells?_some hcell
      obtain ⟨z, e0, _, w0⟩ := DataW.trod_int Try.underlying3 ht
      subst e0
      have hc0 := hc 0 (by decide)
      have ea : (a.add (i * 1)).add 0 = a.add i := by
        rw [Nat.mul_one]
        simp [Addr.add]
      rw [ea] at hc0
      exact ⟨z, hc0, wf_i64 w0⟩
    obtain ⟨b, off, spot⟩ := a
    obtain ⟨x, k0, _⟩ := key 0 (by omega)
    have hspot : spot = none := by
      have := World.cell?_spot k0
      simpa [Addr.add] using this
    subst hspot
    have hb : b < W.heap.size := by
      have := block_lt_of_cell k0
      simpa [Addr.add] using this
    have key' : ∀ i, i < len → ∃ z : Int, W.cell? ⟨b, off + i, none⟩ = some (.int .i64 z) ∧ -9223372036854775808 ≤ z ∧ z ≤ 9223372036854775807 := fun i hi => by
      obtain ⟨x, h, r⟩ := key i hi
      rw [add_off] at h
      exact ⟨x, h, r⟩
    refine ⟨some ⟨b, off, none⟩, m, (List.range len).map (fun i => if h : i < len then (key' i h).choose else 0), by simp, .inr ⟨b, off, rfl, hb, fun j x hx => ?_⟩, by simpa using hl, by simp; omega, fun z hz => ?_⟩
    · rw [List.getElem?_map] at hx
      obtain ⟨j', hj', rfl⟩ := Option.map_eq_some_iff.1 hx
      have hj : j < len ∧ j' = j := by
        obtain ⟨h1, h2⟩ := List.getElem?_eq_some_iff.1 hj'
        simp at h1 h2
        exact ⟨h1, h2.symm⟩
      obtain ⟨hj, rfl⟩ := hj
      rw [dif_pos hj]
      exact (key' j' hj).choose_spec.1
    · obtain ⟨j, hj, rfl⟩ := List.mem_map.1 hz
      have hj' : j < len := by simpa using hj
      rw [dif_pos hj']
      exact (key' j hj').choose_spec.2
theorem Try.words_cells : Try.prog.cellsOf 26 = 4 ∧ Try.prog.cellsOf 23 = 1 ∧ Try.prog.cellsOf 3 = 1 ∧ Try.prog.cellsOf 9 = 1 ∧ Try.prog.cellsOf 24 = 1 := ⟨by kernel_rfl, by kernel_rfl, by kernel_rfl, by kernel_rfl, by kernel_rfl⟩
theorem words_is {H : Type} {enc : TypeId × Value → H} {W : World} {cs : List Value} {fuel : Nat} {x : DataW H × List MemPlace}
    (hf : DataW.trod enc Try.prog W 0 (fun _ => true) true fuel 26 cs = some x) :
    ∃ (n : Nat) (z : Int) (s : ByteArray) (A : Option Addr) (cap : Nat) (zs : List Int), cs = [.int .u64 n, .int .i64 z, .string s, .slice A (List.length zs) cap] ∧ n < 18446744073709551616 ∧ (-9223372036854775808 ≤ z ∧ z ≤ 9223372036854775807) ∧ s.size ≤ 9223372036854775807 ∧
      Its W A zs ∧ zs.length ≤ cap ∧ zs.length ≤ 9223372036854775807 ∧ ∀ z ∈ zs, -9223372036854775808 ≤ z ∧ z ≤ 9223372036854775807 := by
  obtain ⟨k4, k1, k2, k3, k5⟩ := Try.words_cells
  obtain ⟨xs, m, _, rfl, hl, hlen, hfs⟩ := DataW.trod_struct Try.underlying26 hf
  rw [k4] at hl
  match cs, hl, xs, hlen with
  | [c0, c1, c2, c3], _, [y0, y1, y2, y3], _ =>
    have f0 : DataW.trod enc Try.prog W 0 (fun _ => true) true m 23 (List.take (Try.prog.cellsOf 23) (List.drop 0 [c0, c1, c2, c3])) = some y0 := hfs 0 _ rfl
    have f1 : DataW.trod enc Try.prog W 0 (fun _ => true) true m 3 (List.take (Try.prog.cellsOf 3) (List.drop 1 [c0, c1, c2, c3])) = some y1 := hfs 1 _ rfl
    have f2 : DataW.trod enc Try.prog W 0 (fun _ => true) true m 9 (List.take (Try.prog.cellsOf 9) (List.drop 2 [c0, c1, c2, c3])) = some y2 := hfs 2 _ rfl
    have f3 : DataW.trod enc Try.prog W 0 (fun _ => true) true m 24 (List.take (Try.prog.cellsOf 24) (List.drop 3 [c0, c1, c2, c3])) = some y3 := hfs 3 _ rfl
    rw [k1] at f0
    rw [k2] at f1
    rw [k3] at f2
    rw [k5] at f3
    simp only [List.drop, List.take] at f0 f1 f2 f3
    obtain ⟨n, e0, _, w0⟩ := DataW.trod_int Try.underlying23 f0
    obtain ⟨z, e1, _, w1⟩ := DataW.trod_int Try.underlying3 f1
    obtain ⟨s, e2, _, w2⟩ := DataW.trod_string Try.underlying9 f2
    obtain ⟨A, cap, zs, e3, r⟩ := ints_is f3
    simp only [List.cons.injEq, and_true] at e0 e1 e2 e3
    subst e0 e1 e2 e3
    have n0 := wf_u64 w0
    unfold maxLen at w2
    exact ⟨n.toNat, z, s, A, cap, zs, by rw [Int.toNat_of_nonneg n0.1], by omega, wf_i64 w1, by omega, r⟩
theorem uR_cut (n : Nat) : ∀ (k i m : Nat), k < (encU n).length → n * 128 ^ i < 18446744073709551616 → (i = 0 ∨ 0 < n) → i ≤ 9 → uR ((encU n).take k) i m = (0, [], 10) := by
  induction n using Nat.strongRecOn with
  | _ n ih =>
    intro k i m hk hn hi h9
    have hp9 : (128 : Nat) ^ 9 = 9223372036854775808 := by decide
    match k with
    | 0 => rfl
    | k + 1 =>
      by_cases hs : n < 128
      · rw [encU_small hs] at hk
        simp at hk
      · have hi8 : i ≤ 8 := by
          by_cases h : i = 9
          · subst h
            rw [hp9] at hn
            omega
          · omega
        have e : n * 128 ^ i = (n % 128) * 128 ^ i + (n / 128) * 128 ^ (i + 1) := by
          rw [Nat.pow_succ, Nat.mul_comm (128 ^ i) 128, ← Nat.mul_assoc, ← Nat.add_mul]
          congr 1
          omega
        rw [encU_big hs] at hk
        rw [encU_big hs, List.take_succ_cons, uR_cons, ofNat_toNat_lt (by omega), if_neg (by omega), if_neg (by omega)]
        exact ih (n / 128) (by omega) k (i + 1) _ (by simpa using hk) (by omega) (.inr (by omega)) (by omega)
theorem takeU_cut (n k : Nat) (l : List UInt8) (h : n < 18446744073709551616) : takeU ((encU n ++ l).take k) 0 = if k < (encU n).length then (0, [], 10) else (n, l.take (k - (encU n).length), 0) := by
  rw [List.take_append]
  split
  · rename_i hk
    rw [show k - (encU n).length = 0 by omega, List.take_zero, List.append_nil, takeU, if_pos rfl]
    exact uR_cut n k 0 0 hk (by simpa using h) (.inl rfl) (by decide)
  · rw [List.take_of_length_le (by omega)]
    exact takeU_enc n _ h
theorem takeL_cut (n m k : Nat) (l : List UInt8) (h : n < 18446744073709551616) (hm : n ≤ m) : takeL m ((encU n ++ l).take k) 0 = if k < (encU n).length then (0, [], 10) else (n, l.take (k - (encU n).length), 0) := by
  unfold takeL
  rw [takeU_cut n k l h]
  split
  · rfl
  · rw [if_neg (by simp; omega)]
theorem takeT_cut (m k : Nat) (s l : List UInt8) (hm : s.length ≤ m) (h : s.length < 18446744073709551616) :
    takeT m ((encU s.length ++ (s ++ l)).take k) 0 = if k < (encU s.length).length + s.length then ([], [], 10) else (s, l.take (k - ((encU s.length).length + s.length)), 0) := by
  unfold takeT
  rw [takeL_cut s.length m k (s ++ l) h hm]
  by_cases h1 : k < (encU s.length).length
  · rw [if_pos h1, if_pos (show k < (encU s.length).length + s.length by omega)]
    rfl
  · rw [if_neg h1]
    simp only
    by_cases h2 : k < (encU s.length).length + s.length
    · rw [if_pos h2, if_pos]
      simp only [List.length_take, List.length_append]
      omega
    · rw [if_neg h2, if_neg (by simp only [List.length_take, List.length_append]; omega)]
      have e : k - (encU s.length).length - s.length = k - ((encU s.length).length + s.length) := by omega
      by_cases h3 : s.length = 0
      · have e0 : s = [] := List.eq_nil_of_length_eq_zero h3
        subst e0
        rw [if_pos h3]
        simp
      · rw [if_neg h3, List.take_append, e, List.take_of_length_le (show s.length ≤ k - (encU s.length).length by omega), List.take_left, List.drop_left]
theorem rowI_cut (zs : List Int) : ∀ (xs : List Int) (k : Nat), (∀ z ∈ zs, -9223372036854775808 ≤ z ∧ z ≤ 9223372036854775807) → k < (encR zs).length → rowI xs zs.length ((encR zs).take k) 0 = ([], [], 10) := by
  induction zs with
  | nil => intro xs k _ hk; simp [encR] at hk
  | cons z zs ih =>
    intro xs k hr hk
    have e : encR (z :: zs) = encU (foldF z) ++ encR zs := by simp [encR]
    have hz := foldF_lt (hr z List.mem_cons_self)
    rw [e, List.length_append] at hk
    rw [e, List.length_cons, rowI, takeU_cut _ _ _ hz]
    by_cases h1 : k < (encU (foldF z)).length
    · rw [if_pos h1, if_neg (by decide)]
    · rw [if_neg h1, if_pos rfl]
      exact ih _ _ (fun y hy => hr y (List.mem_cons_of_mem _ hy)) (by omega)
theorem takeI_cut (m k : Nat) (zs : List Int) (hm : zs.length ≤ m) (h : zs.length < 18446744073709551616) (hr : ∀ z ∈ zs, -9223372036854775808 ≤ z ∧ z ≤ 9223372036854775807) (hk : k < (encU zs.length).length + (encR zs).length) :
    takeI m ((encU zs.length ++ encR zs).take k) 0 = ([], [], 10) := by
  unfold takeI
  rw [takeL_cut _ m k _ h hm]
  by_cases h1 : k < (encU zs.length).length
  · rw [if_pos h1]
    rfl
  · rw [if_neg h1]
    exact rowI_cut zs [] _ hr (by omega)
theorem takeT_dead (m : Nat) : takeT m [] 10 = ([], [], 10) := by
  have e : takeL m [] 10 = (0, [], 10) := by
    unfold takeL
    rw [show takeU [] 10 = (0, [], 10) from rfl]
    simp
  unfold takeT
  rw [e]
  rfl
theorem takeI_dead (m : Nat) : takeI m [] 10 = ([], [], 10) := by
  have e : takeL m [] 10 = (0, [], 10) := by
    unfold takeL
    rw [show takeU [] 10 = (0, [], 10) from rfl]
    simp
  unfold takeI
  rw [e]
  rfl
/-- A strict prefix of what a number, a text and a row are put as: at the end of it the reader is dry. -/
theorem cut_all (n k m : Nat) (s : List UInt8) (zs : List Int) (hn : n < 18446744073709551616) (hs : s.length ≤ m) (hz : zs.length ≤ m) (hm : m ≤ 1000000) (hr : ∀ z ∈ zs, -9223372036854775808 ≤ z ∧ z ≤ 9223372036854775807)
    (r1 : Nat × List UInt8 × Int) (r2 : List UInt8 × List UInt8 × Int) (e1 : takeU ((encU n ++ (encU s.length ++ (s ++ (encU zs.length ++ encR zs)))).take k) 0 = r1) (e2 : takeT m r1.2.1 r1.2.2 = r2)
    (hk : k < (encU n).length + (encU s.length).length + s.length + (encU zs.length).length + (encR zs).length) : takeI m r2.2.1 r2.2.2 = ([], [], 10) := by
  rw [takeU_cut n k _ hn] at e1
  by_cases h1 : k < (encU n).length
  · rw [if_pos h1] at e1
    subst e1
    simp only at e2
    rw [takeT_dead] at e2
    subst e2
    exact takeI_dead m
  · rw [if_neg h1] at e1
    subst e1
    simp only at e2
    rw [takeT_cut m _ s _ hs (by omega)] at e2
    by_cases h2 : k - (encU n).length < (encU s.length).length + s.length
    · rw [if_pos h2] at e2
      subst e2
      exact takeI_dead m
    · rw [if_neg h2] at e2
      subst e2
      exact takeI_cut m _ zs hz (by omega) hr (by omega)
end Go.Proofs.Ytanjgobcfgmpfaa
