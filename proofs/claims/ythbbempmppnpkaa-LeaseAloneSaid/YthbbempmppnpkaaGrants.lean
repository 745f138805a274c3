/- A row of grants that comes in or is owned; the document's Until. Conditions: the row stands in memory. -/
import Derived.Test.YthbbempmppnpkaaOpen
import Derived.Deep.Slices
import Derived.OwnWalk
import Derived.Laws.AppendOwn
import Derived.LoopTactic
namespace Go.Proofs.Ythbbempmppnpkaa
open Go Go.Joins Go.ChangeShapes Go.WideShapes Go.RowKit
theorem add_off (b off j : Nat) : (⟨b, off, none⟩ : Addr).add j = ⟨b, off + j, none⟩ := by
  unfold Addr.add
  split <;> simp_all
theorem add_add (b off i j : Nat) : ((⟨b, off, none⟩ : Addr).add i).add j = ⟨b, off + i + j, none⟩ := by rw [add_off, add_off]
/-- The slice at A holds these pairs of numbers. -/
def Pairs (w : World) (A : Option Addr) (gs : List (Int × Int)) : Prop :=
  gs = [] ∨ ∃ b off, A = some ⟨b, off, none⟩ ∧ b < w.heap.size ∧ ∀ (j : Nat) g, gs[j]? = some g → w.cell? ⟨b, off + j * 2, none⟩ = some (.int .i64 g.1) ∧ w.cell? ⟨b, off + j * 2 + 1, none⟩ = some (.int .i64 g.2)
def i64 (n : Int) : Prop := -9223372036854775808 ≤ n ∧ n ≤ 9223372036854775807
theorem Pairs.keep {w w' : World} {A : Option Addr} {gs : List (Int × Int)} (h : Pairs w A gs) (hb : Below w.heap.size w w') : Pairs w' A gs := by
  rcases h with e | ⟨b, off, rfl, hlt, hc⟩
  · exact .inl e
  · refine .inr ⟨b, off, rfl, Nat.lt_of_lt_of_le hlt hb.size, fun j g hg => ?_⟩
    obtain ⟨h1, h2⟩ := hc j g hg
    exact ⟨by rw [hb.cell (p := ⟨b, off + j * 2, none⟩) hlt]; exact h1, by rw [hb.cell (p := ⟨b, off + j * 2 + 1, none⟩) hlt]; exact h2⟩
theorem Try.cells54 : Try.prog.cellsOf 54 = 2 := by kernel_rfl
theorem pair_of {H : Type} {enc : TypeId × Value → H} {W : World} {fuel : Nat} {cs : List Value} {x : DataW H × List MemPlace} (hlen : cs.length = 2)
    (hf : DataW.trod enc Try.prog W 0 (fun _ => true) true fuel 54 cs = some x) : ∃ a b : Int, cs = [.int .i64 a, .int .i64 b] ∧ i64 a ∧ i64 b := by
  obtain ⟨xs, n, _, hx, _, hlen2, hg⟩ := DataW.trod_struct Try.underlying54 hf
  match cs, hlen with
  | [c0, c1], _ =>
    match xs, hlen2 with
    | [y0, y1], _ =>
      have h0 := hg 0 _ rfl
      have h1 := hg 1 _ rfl
      have e0 : ([c0, c1].drop 0).take (Try.prog.cellsOf 3) = [c0] := by rw [show Try.prog.cellsOf 3 = 1 by kernel_rfl]; rfl
      have e1 : ([c0, c1].drop 1).take (Try.prog.cellsOf 3) = [c1] := by rw [show Try.prog.cellsOf 3 = 1 by kernel_rfl]; rfl
      have h0' : DataW.trod enc Try.prog W 0 (fun _ => true) true n 3 [c0] = some y0 := by rw [← e0]; simpa using h0
      have h1' : DataW.trod enc Try.prog W 0 (fun _ => true) true n 3 [c1] = some y1 := by rw [← e1]; simpa using h1
      obtain ⟨a, q0, _, w0⟩ := DataW.trod_int Try.underlying3 h0'
      obtain ⟨b, q1, _, w1⟩ := DataW.trod_int Try.underlying3 h1'
      simp at q0 q1
      subst q0 q1
      exact ⟨a, b, rfl, wf_i64 w0, wf_i64 w1⟩
theorem pairs_is {H : Type} {enc : TypeId × Value → H} {W : World} {base : Nat} {v : Value} {d : DataW H} {p : List MemPlace}
    (hv : Value.okWide Try.prog W .any base 45 v) (h : DataW.Trod enc Try.prog W 0 (fun _ => true) true 45 v d p) :
    ∃ A cap gs, v = .slice A (List.length gs) cap ∧ Pairs W A gs ∧ gs.length ≤ 9223372036854775807 ∧ ∀ g ∈ gs, i64 g.1 ∧ i64 g.2 := by
  obtain ⟨a0, len, cap, rfl⟩ := okWide_slice Try.underlying45 hv
  obtain ⟨fuel, hf⟩ := h
  rcases Go.Deep.open_slice Try.underlying45 hf with ⟨hcs, _⟩ | ⟨a, l, c, m, n, D, Pl, hcs, _, hl, hm, hmm, _, hi⟩
  · simp [Value.cells] at hcs
    obtain ⟨rfl, rfl, rfl⟩ := hcs
    exact ⟨none, 0, [], rfl, .inl rfl, by decide, fun g h => by cases h⟩
  · simp [Value.cells] at hcs
    obtain ⟨rfl, rfl, rfl⟩ := hcs
    have hm' : m = cap := by simpa using hmm
    subst hm'
    rw [Try.cells54] at hi
    unfold maxLen at hm
    by_cases h0 : len = 0
    · subst h0
      exact ⟨some a, m, [], rfl, .inl rfl, by decide, fun g h => by cases h⟩
    have key : ∀ i, i < len → ∃ g : Int × Int, (i64 g.1 ∧ i64 g.2) ∧ W.cell? (a.add (i * 2)) = some (.int .i64 g.1) ∧ W.cell? ((a.add (i * 2)).add 1) = some (.int .i64 g.2) := by
      intro i hil
      obtain ⟨cs', hcell, ht⟩ := hi i (by omega)
      obtain ⟨_, hl1, hc⟩ := World.cells?_some hcell
      obtain ⟨x, y, e0, r⟩ := pair_of hl1 ht
      subst e0
      have hc0 := hc 0 (by simp)
      have hc1 := hc 1 (by simp)
      refine ⟨(x, y), r, ?_, hc1⟩
      simpa [Addr.add] using hc0
    obtain ⟨b, off, spot⟩ := a
    obtain ⟨x, _, k0, _⟩ := key 0 (by omega)
    have hspot : spot = none := by
      have := World.cell?_spot k0
      simpa [Addr.add] using this
    subst hspot
    have hb : b < W.heap.size := by
      have := block_lt_of_cell k0
      simpa [Addr.add] using this
    have key' : ∀ i, i < len → ∃ g : Int × Int, (i64 g.1 ∧ i64 g.2) ∧ W.cell? ⟨b, off + i * 2, none⟩ = some (.int .i64 g.1) ∧ W.cell? ⟨b, off + i * 2 + 1, none⟩ = some (.int .i64 g.2) := fun i hi => by
      obtain ⟨x, h, r0, r1⟩ := key i hi
      rw [add_add] at r1
      rw [add_off] at r0
      exact ⟨x, h, r0, r1⟩
    have hall : ∀ (j : Nat) g, ((List.range len).map (fun i => if h : i < len then (key' i h).choose else x))[j]? = some g → (i64 g.1 ∧ i64 g.2) ∧ W.cell? ⟨b, off + j * 2, none⟩ = some (.int .i64 g.1) ∧ W.cell? ⟨b, off + j * 2 + 1, none⟩ = some (.int .i64 g.2) := fun j g hx => by
      rw [List.getElem?_map] at hx
      obtain ⟨j', hj', rfl⟩ := Option.map_eq_some_iff.1 hx
      have hj : j < len ∧ j' = j := by
        obtain ⟨h1, h2⟩ := List.getElem?_eq_some_iff.1 hj'
        simp at h1 h2
        exact ⟨h1, h2.symm⟩
      obtain ⟨hj, rfl⟩ := hj
      rw [dif_pos hj]
      exact (key' j' hj).choose_spec
    refine ⟨some ⟨b, off, none⟩, m, (List.range len).map (fun i => if h : i < len then (key' i h).choose else x), by simp, .inr ⟨b, off, rfl, hb, fun j g hx => (hall j g hx).2⟩, by simp; omega, fun g hg => ?_⟩
    obtain ⟨j, hj⟩ := List.getElem?_of_mem hg
    exact (hall j g hj).1
/-- A row of pairs that the call owns. -/
def flat (gs : List (Int × Int)) : List Value := gs.flatMap fun g => [.int .i64 g.1, .int .i64 g.2]
def OwnP (w : World) (B : Nat) (v : Value) (gs : List (Int × Int)) : Prop := w.ownsRow B 51 2 v gs.length (flat gs)
theorem flat_len (gs : List (Int × Int)) : (flat gs).length = gs.length * 2 := by
  induction gs with
  | nil => rfl
  | cons g gs ih =>
    have e : flat (g :: gs) = .int .i64 g.1 :: .int .i64 g.2 :: flat gs := rfl
    rw [e]
    simp only [List.length_cons, ih]
    omega
theorem flat_at (gs : List (Int × Int)) : ∀ (j : Nat) g, gs[j]? = some g → (flat gs)[j * 2]? = some (.int .i64 g.1) ∧ (flat gs)[j * 2 + 1]? = some (.int .i64 g.2) := by
  induction gs with
  | nil => intro j g h; simp at h
  | cons x gs ih =>
    intro j g h
    have e : flat (x :: gs) = .int .i64 x.1 :: .int .i64 x.2 :: flat gs := rfl
    rw [e]
    cases j with
    | zero =>
      have : x = g := by simpa using h
      subst this
      exact ⟨rfl, rfl⟩
    | succ j =>
      have h' : gs[j]? = some g := by simpa using h
      have := ih j g h'
      rw [show (j + 1) * 2 = j * 2 + 1 + 1 by omega, show j * 2 + 1 + 1 + 1 = (j * 2 + 1) + 1 + 1 by omega]
      simpa using this
theorem OwnP.is {w : World} {B : Nat} {v : Value} {gs : List (Int × Int)} (h : OwnP w B v gs) : ∃ A cap, v = .slice A gs.length cap ∧ Pairs w A gs := by
  obtain ⟨_, ⟨rfl, h0⟩ | ⟨g, cap, cur, rfl, hb, hh, hn, hcap, hcur, htake⟩⟩ := h
  · exact ⟨none, 0, by rw [h0], .inl (List.eq_nil_of_length_eq_zero h0)⟩
  · refine ⟨_, cap, rfl, .inr ⟨g, 0, rfl, lt_of hh, fun j x hx => ?_⟩⟩
    have hj := (List.getElem?_eq_some_iff.1 hx).1
    obtain ⟨h1, h2⟩ := flat_at gs j x hx
    rw [← htake, List.getElem?_take, if_pos (by omega)] at h1 h2
    exact ⟨by rw [cell_of hh, Nat.zero_add, ← Array.getElem?_toList]; exact h1, by rw [cell_of hh, Nat.zero_add, ← Array.getElem?_toList]; exact h2⟩
theorem Try.info51 : (Try.prog.info? 51).map (fun i => (i.zero, i.size, i.bytes)) = some (some (.agg #[.int .i64 0, .int .i64 0]), 2, 16) := by kernel_rfl
def stepU (node : Int) (b : Int) (g : Int × Int) : Int := if g.1 = node then (if b < g.2 + 24 then g.2 + 24 else b) else b
def untilF (gs : List (Int × Int)) (node : Int) : Int := gs.foldl (stepU node) 0
theorem untilF_snoc (gs : List (Int × Int)) (g : Int × Int) (node : Int) : untilF (gs ++ [g]) node = stepU node (untilF gs node) g := by simp [untilF]
theorem untilF_none (gs : List (Int × Int)) (node : Int) (h : ∀ g ∈ gs, g.1 ≠ node) : untilF gs node = 0 := by
  have key : ∀ (l : List (Int × Int)) b, (∀ g ∈ l, g.1 ≠ node) → l.foldl (stepU node) b = b := by
    intro l
    induction l with
    | nil => intro b _; rfl
    | cons g l ih =>
      intro b h
      rw [List.foldl_cons, stepU, if_neg (h g List.mem_cons_self)]
      exact ih b fun x hx => h x (List.mem_cons_of_mem _ hx)
  exact key gs 0 h
set_option maxHeartbeats 1000000 in
theorem refuntil_any (A : Option Addr) (cap : Nat) (gs : List (Int × Int)) (node : Int) (w : World) (h : Pairs w A gs) (hlen : gs.length ≤ 1099511627776) (ht : ∀ g ∈ gs, 0 ≤ g.2 ∧ g.2 < 1099511627776) :
    Calls Try.prog 21 #[.slice A gs.length cap, .int .i64 node] w fun e w' => e = .returned (.int .i64 (untilF gs node)) ∧ w = w' := by
  have HP := hid h
  have HT := hid ht
  have hl : (gs.length : Int) ≤ 1099511627776 := by omega
  clear h ht
  go_enter Try.func21, Try.ntmps21
  go_wp2_with fail
  go_loop [5, 6] (fun b i => ∃ k : Nat, k ≤ gs.length ∧ i = .int .i64 k ∧ b = .int .i64 (untilF (gs.take k) node)) (fun _ i => gs.length - (intOf i).toNat)
  case atStart => exact ⟨0, Nat.zero_le _, rfl, rfl⟩
  case round =>
    obtain ⟨k, hk, rfl, rfl⟩ := hrel
    by_cases hlt : k < gs.length
    · have hlt' : (k : Int) < (gs.length : Int) := by omega
      rcases HP.out with rfl | ⟨b, off, rfl, _, hc⟩
      · simp at hlt
      · obtain ⟨c1, c2⟩ := hc k gs[k] (List.getElem?_eq_getElem hlt)
        obtain ⟨t1, t2⟩ := HT.out gs[k] (List.getElem_mem hlt)
        have hs := hid (show untilF (gs.take (k + 1)) node = stepU node (untilF (gs.take k) node) gs[k] by rw [List.take_succ_eq_append_getElem hlt, untilF_snoc])
        generalize untilF (gs.take k) node = u at *
        generalize gs[k] = g at *
        obtain ⟨g1, g2⟩ := g
        simp only at c1 c2 t1 t2
        clear hc
        by_cases hn : g1 = node
        · subst hn
          by_cases hm : u < g2 + 24
          · have HS := hid (hs.out.trans (show stepU g1 u (g1, g2) = g2 + 24 by simp [stepU, hm]))
            clear hs
            go_wp2_with fail
            go_round
            case rel => exact ⟨k + 1, by omega, by go_num, by rw [HS.out]⟩
            case measure => simp [intOf]; omega
          · have HS := hid (hs.out.trans (show stepU g1 u (g1, g2) = u by simp [stepU, hm]))
            clear hs
            go_wp2_with fail
            go_round
            case rel => exact ⟨k + 1, by omega, by go_num, by rw [HS.out]⟩
            case measure => simp [intOf]; omega
        · have hn' : (g1 == node) = false := by simpa using hn
          have HS := hid (hs.out.trans (show stepU node u (g1, g2) = u by simp [stepU, hn]))
          clear hs hn
          go_wp2_with fail
          go_round
          case rel => exact ⟨k + 1, by omega, by go_num, by rw [HS.out]⟩
          case measure => simp [intOf]; omega
    · obtain rfl : k = gs.length := by omega
      rw [List.take_length]
      go_wp2_with fail
      all_goals go_returns
      exact ⟨rfl, rfl⟩
end Go.Proofs.Ythbbempmppnpkaa
