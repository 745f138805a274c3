/- The two readers side by side, and the steps of a script. Conditions: the rows stand in memory. -/
import Derived.Test.YtanjgobcfgmpfaaRRefI
import Derived.Test.YtanjgobcfgmpfaaCutMath
import Derived.Test.YtanjgobcfgmpfaaSame
import Derived.Laws.BitsLemmas
namespace Go.Proofs.Ytanjgobcfgmpfaa
open Go Go.ChangeShapes Go.WideShapes Go.RowKit
theorem i64_and7 (n : Int) : ∃ k : Nat, k < 8 ∧ bits .and .i64 n 7 = (k : Int) := by
  have h15 : (BitVec.ofInt 64 7).toNat = 2 ^ 3 - 1 := by decide
  have key : (BitVec.ofInt 64 n &&& BitVec.ofInt 64 7).toNat = (n % ((2 ^ 64 : Nat) : Int)).toNat % 2 ^ 3 := by
    rw [BitVec.toNat_and, BitVec.toNat_ofInt, h15, Nat.and_two_pow_sub_one_eq_mod]
  refine ⟨(BitVec.ofInt 64 n &&& BitVec.ofInt 64 7).toNat, by rw [key]; omega, ?_⟩
  show IntKind.i64.wrap ((BitVec.ofInt 64 n &&& BitVec.ofInt 64 7).toNat : Nat) = _
  rw [key, IntKind.wrap_i64]
  omega
def i64 (n : Int) : Prop := -9223372036854775808 ≤ n ∧ n ≤ 9223372036854775807
/-- The slice at A holds these pairs of numbers. -/
def Pairs (w : World) (A : Option Addr) (gs : List (Int × Int)) : Prop :=
  gs = [] ∨ ∃ b off, A = some ⟨b, off, none⟩ ∧ b < w.heap.size ∧ ∀ (j : Nat) g, gs[j]? = some g → w.cell? ⟨b, off + j * 2, none⟩ = some (.int .i64 g.1) ∧ w.cell? ⟨b, off + j * 2 + 1, none⟩ = some (.int .i64 g.2)
theorem Try.cells45 : Try.prog.cellsOf 45 = 2 := by kernel_rfl
theorem pair_of {H : Type} {enc : TypeId × Value → H} {W : World} {fuel : Nat} {cs : List Value} {x : DataW H × List MemPlace} (hlen : cs.length = 2)
    (hf : DataW.trod enc Try.prog W 0 (fun _ => true) true fuel 45 cs = some x) : ∃ a b : Int, cs = [.int .i64 a, .int .i64 b] ∧ i64 a ∧ i64 b := by
  obtain ⟨xs, n, _, hx, _, hlen2, hg⟩ := DataW.trod_struct Try.underlying45 hf
  match cs, hlen with
  | [c0, c1], _ =>
    match xs, hlen2 with
    | [y0, y1], _ =>
      have h0 := hg 0 _ rfl
      have h1 := hg 1 _ rfl
      have e0 : ([c0, c1].drop 0).take (Try.prog.cellsOf 3) = [c0] := by rw [show Try.prog.cellsOf 3 = 1 by kernel_rfl]; rfl
      have e1 : ([c0, c1].drop 1).take (Try.prog.cellsOf 3) = [c1] := by rw [show Try.prog.cellsOf 3 = 1 by kernel_rfl]; rfl
      have h0' : DataW.trod enc Try.prog W 0 (fun _ => true) true n 3 [c0] = some y0 := by rw [← e0]; simpa using h0
      have h1' : DataW.trod enc Try.prog W 0 (fun _ => true) true n 3 [c1] = some y1 := by rw [← e1]; simpa using h1
      obtain ⟨a, q0, _, w0⟩ := DataW.trod_int Try.underlying3 h0'
      obtain ⟨b, q1, _, w1⟩ := DataW.trod_int Try.underlying3 h1'
      simp at q0 q1
      subst q0 q1
      exact ⟨a, b, rfl, by simpa [Lit.wf, i64, IntKind.min, IntKind.max, IntKind.signed, IntKind.bits] using w0, by simpa [Lit.wf, i64, IntKind.min, IntKind.max, IntKind.signed, IntKind.bits] using w1⟩
theorem pairs_is {H : Type} {enc : TypeId × Value → H} {W : World} {base : Nat} {v : Value} {d : DataW H} {p : List MemPlace}
    (hv : Value.okWide Try.prog W .any base 37 v) (h : DataW.Trod enc Try.prog W 0 (fun _ => true) true 37 v d p) :
    ∃ A cap gs, v = .slice A (List.length gs) cap ∧ Pairs W A gs ∧ gs.length ≤ 9223372036854775807 ∧ ∀ g ∈ gs, i64 g.1 ∧ i64 g.2 := by
  obtain ⟨a0, len, cap, rfl⟩ := okWide_slice Try.underlying37 hv
  obtain ⟨fuel, hf⟩ := h
  rcases Go.Deep.open_slice Try.underlying37 hf with ⟨hcs, _⟩ | ⟨a, l, c, m, n, D, Pl, hcs, _, hl, hm, hmm, _, hi⟩
  · simp [Value.cells] at hcs
    obtain ⟨rfl, rfl, rfl⟩ := hcs
    exact ⟨none, 0, [], rfl, .inl rfl, by decide, fun g h => by cases h⟩
  · simp [Value.cells] at hcs
    obtain ⟨rfl, rfl, rfl⟩ := hcs
    have hm' : m = cap := by simpa using hmm
    subst hm'
    rw [Try.cells45] at hi
    unfold maxLen at hm
    by_cases h0 : len = 0
    · subst h0
      exact ⟨some a, m, [], rfl, .inl rfl, by decide, fun g h => by cases h⟩
    have key : ∀ i, i < len → ∃ g : Int × Int, (i64 g.1 ∧ i64 g.2) ∧ W.cell? (a.add (i * 2)) = some (.int .i64 g.1) ∧ W.cell? ((a.add (i * 2)).add 1) = some (.int .i64 g.2) := by
      intro i hil
      obtain ⟨cs', hcell, ht⟩ := hi i (by omega)
      obtain ⟨_, hl1, hc⟩ := World.cells?_some hcell
      obtain ⟨x, y, e0, r⟩ := pair_of hl1 ht
      subst e0
      have hc0 := hc 0 (by simp)
      have hc1 := hc 1 (by simp)
      refine ⟨(x, y), r, ?_, hc1⟩
      simpa [Addr.add] using hc0
    obtain ⟨b, off, spot⟩ := a
    obtain ⟨x, _, k0, _⟩ := key 0 (by omega)
    have hspot : spot = none := by
      have := World.cell?_spot k0
      simpa [Addr.add] using this
    subst hspot
    have hb : b < W.heap.size := by
      have := block_lt_of_cell k0
      simpa [Addr.add] using this
    have key' : ∀ i, i < len → ∃ g : Int × Int, (i64 g.1 ∧ i64 g.2) ∧ W.cell? ⟨b, off + i * 2, none⟩ = some (.int .i64 g.1) ∧ W.cell? ⟨b, off + i * 2 + 1, none⟩ = some (.int .i64 g.2) := fun i hi => by
      obtain ⟨x, h, r0, r1⟩ := key i hi
      rw [add_add] at r1
      rw [add_off'] at r0
      exact ⟨x, h, r0, r1⟩
    have hall : ∀ (j : Nat) g, ((List.range len).map (fun i => if h : i < len then (key' i h).choose else x))[j]? = some g → (i64 g.1 ∧ i64 g.2) ∧ W.cell? ⟨b, off + j * 2, none⟩ = some (.int .i64 g.1) ∧ W.cell? ⟨b, off + j * 2 + 1, none⟩ = some (.int .i64 g.2) := by
      intro j g hx
      rw [List.getElem?_map] at hx
      obtain ⟨j', hj', rfl⟩ := Option.map_eq_some_iff.1 hx
      have hj : j < len ∧ j' = j := by
        obtain ⟨h1, h2⟩ := List.getElem?_eq_some_iff.1 hj'
        simp at h1 h2
        exact ⟨h1, h2.symm⟩
      obtain ⟨hj, rfl⟩ := hj
      rw [dif_pos hj]
      exact (key' j' hj).choose_spec
    refine ⟨some ⟨b, off, none⟩, m, (List.range len).map (fun i => if h : i < len then (key' i h).choose else x), by simp, .inr ⟨b, off, rfl, hb, fun j g hx => (hall j g hx).2⟩, by simp; omega, fun g hg => ?_⟩
    obtain ⟨j, hj⟩ := List.getElem?_of_mem hg
    exact (hall j g hj).1
theorem OwnI.its {w : World} {B : Nat} {A : Option Addr} {n cap : Nat} {zs : List Int} (h : OwnI w B (.slice A n cap) zs) : Its w A zs := by
  obtain ⟨A', cap', he, hi⟩ := h.is
  cases he
  exact hi
theorem two_ne {w : World} {B r1 r2 : Nat} {b1 b2 : List UInt8} {e1 e2 : Int} (h1 : RS w r1 b1 e1) (h2 : RR w B r2 b2 e2) : r1 ≠ r2 := by
  rintro rfl
  obtain ⟨A, cap, hR, _⟩ := h1
  obtain ⟨A2, cap2, hR2, _⟩ := h2
  rw [hR] at hR2
  simp at hR2
theorem two_code {w w' : World} {B r1 r2 : Nat} {b1 b2 : List UInt8} {e1 e2 : Int} (h1 : RS w r1 b1 e1) (h2 : RR w B r2 b2 e2) (hB : B ≤ r1) (hg : w.grownBy w' (some r1)) : RR w' B r2 b2 e2 := h2.grown hg (two_ne h1 h2) hB
theorem two_ref {w w' : World} {B r1 r2 : Nat} {b1 b2 : List UInt8} {e1 e2 : Int} (h1 : RS w r1 b1 e1) (h2 : RR w B r2 b2 e2) (hg : w.grownBy w' (some r2)) : RS w' r1 b1 e1 := by
  have hne := two_ne h1 h2
  obtain ⟨A2, cap2, hR2, _⟩ := h2
  have key : ∀ (g : Nat) (cs : Array Value) (T : TypeId), w.heap[g]? = some (.cells cs T (0, 0)) → T ≠ 43 → w'.heap[g]? = w.heap[g]? := by
    intro g cs T hh hT
    refine hg.block g (lt_of hh) fun he => ?_
    cases he
    rw [hR2] at hh
    simp at hh
    exact hT hh.2.symm
  obtain ⟨A, cap, hR, ⟨hcap, ht⟩, hb⟩ := h1
  refine ⟨A, cap, by rw [key _ _ _ hR (by decide)]; exact hR, ⟨hcap, fun a ha => ?_⟩, ?_⟩
  · obtain ⟨cs, hc⟩ := ht a ha
    exact ⟨cs, by rw [key _ _ _ hc (by decide)]; exact hc⟩
  · rcases hb with rfl | ⟨b, off, rfl, hlt, hc⟩
    · exact .inl rfl
    · obtain ⟨cs, hh⟩ := ht ⟨b, off, none⟩ rfl
      refine .inr ⟨b, off, rfl, Nat.lt_of_lt_of_le hlt hg.size, fun j x hx => ?_⟩
      rw [World.cell?_of_block (w := w) (a := ⟨b, off + j, none⟩) (key b _ _ hh (by decide))]
      exact hc j x hx
def failB (bs : List UInt8) (e c : Int) : List UInt8 := if e = 0 ∧ c ≠ 0 then [] else bs
def failE (e c : Int) : Int := if e = 0 ∧ c ≠ 0 then c else e
theorem failB_len (bs : List UInt8) (e c : Int) : (failB bs e c).length ≤ bs.length := by unfold failB; split <;> simp
theorem fail_any (rb : Nat) (bs : List UInt8) (e c : Int) (w : World) (h : RS w rb bs e) : Calls Try.prog 28 #[.pointer (some ⟨rb, 0, none⟩), .int .i64 c] w fun en w' => en = .returned (.tuple #[]) ∧ RS w' rb (failB bs e c) (failE e c) ∧ w.grownBy w' (some rb) := by
  unfold failB failE
  by_cases hc : e = 0 ∧ c ≠ 0
  · rw [if_pos hc, if_pos hc]
    obtain ⟨rfl, h2⟩ := hc
    exact fail_ok rb bs c w h h2
  · rw [if_neg hc, if_neg hc]
    refine (fail_not rb bs e c w h (by by_cases e = 0 <;> simp_all)).mono ?_
    rintro _ w' ⟨rfl, rfl⟩
    exact ⟨rfl, h, rr_grown_refl⟩
theorem rfail_any (B rb : Nat) (bs : List UInt8) (e c : Int) (w : World) (h : RR w B rb bs e) : Calls Try.prog 29 #[.pointer (some ⟨rb, 0, none⟩), .int .i64 c] w fun en w' => en = .returned (.tuple #[]) ∧ RR w' B rb (failB bs e c) (failE e c) ∧ w.grownBy w' (some rb) := by
  unfold failB failE
  by_cases hc : e = 0 ∧ c ≠ 0
  · rw [if_pos hc, if_pos hc]
    obtain ⟨rfl, h2⟩ := hc
    exact rfail_ok B rb bs c w h h2
  · rw [if_neg hc, if_neg hc]
    refine (rfail_not B rb bs e c w h (by by_cases e = 0 <;> simp_all)).mono ?_
    rintro _ w' ⟨rfl, rfl⟩
    exact ⟨rfl, h, rr_grown_refl⟩
theorem takeT_len (m : Nat) (bs : List UInt8) (e : Int) : (takeT m bs e).2.1.length ≤ bs.length := by
  have := takeL_len m bs e
  unfold takeT
  split
  · simp
  · split
    · exact this
    · simp only [List.length_drop]; omega
theorem rowI_len (n : Nat) : ∀ (xs : List Int) (bs : List UInt8) (e : Int), (rowI xs n bs e).2.1.length ≤ bs.length := by
  induction n with
  | zero => intro xs bs e; exact Nat.le_refl _
  | succ n ih =>
    intro xs bs e
    have h1 := takeU_len bs e
    unfold rowI
    split
    · exact Nat.le_trans (ih _ _ _) h1
    · exact h1
theorem takeI_len (m : Nat) (bs : List UInt8) (e : Int) : (takeI m bs e).2.1.length ≤ bs.length := Nat.le_trans (rowI_len _ _ _ _) (takeL_len m bs e)
theorem rowI_many (n : Nat) : ∀ (xs : List Int) (bs : List UInt8) (e : Int), (rowI xs n bs e).1.length ≤ xs.length + bs.length := by
  induction n with
  | zero => intro xs bs e; simp [rowI]
  | succ n ih =>
    intro xs bs e
    unfold rowI
    split
    · rename_i h0
      have h1 := takeU_less h0
      have h2 := ih (xs ++ [unfoldF (takeU bs e).1]) (takeU bs e).2.1 (takeU bs e).2.2
      simp at h2
      omega
    · simp
theorem takeI_many (m : Nat) (bs : List UInt8) (e : Int) : (takeI m bs e).1.length ≤ bs.length := by
  have h1 := rowI_many (takeL m bs e).1 [] (takeL m bs e).2.1 (takeL m bs e).2.2
  have h2 := takeL_len m bs e
  unfold takeI
  simp at h1
  omega
end Go.Proofs.Ytanjgobcfgmpfaa
