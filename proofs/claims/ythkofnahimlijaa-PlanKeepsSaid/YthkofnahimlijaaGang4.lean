/- slices.IndexFunc and slices.DeleteFunc over numbers of the call's own, with a predicate that makes memory of its own. Conditions: what the predicate answers. -/
import Derived.Test.YthkofnahimlijaaGang3
import Derived.Lib.SliceRun
namespace Go.Proofs.Ythkofnahimlijaa
open Go Go.RowKit
theorem setCells_facts (b : Nat) : ∀ (vs : List Value) (o : Nat) (w : World) (cs : Array Value) (t : TypeId), w.heap[b]? = some (.cells cs t (0, 0)) →
    (∃ cs', (w.setCells b o vs).heap[b]? = some (.cells cs' t (0, 0)) ∧ cs'.size = cs.size ∧ ∀ i, i < o → cs'[i]? = cs[i]?) ∧ (∀ B, B ≤ b → ∀ w0, Below B w0 w → Below B w0 (w.setCells b o vs))
  | [], o, w, cs, t, h => ⟨⟨cs, h, rfl, fun _ _ => rfl⟩, fun _ _ _ h => h⟩
  | v :: r, o, w, cs, t, h => by
    have h1 := heap_setCell_same w b o cs t v h
    obtain ⟨⟨cs', a1, a2, a3⟩, a4⟩ := setCells_facts b r (o + 1) (w.setCell ⟨b, o, none⟩ v) _ t h1
    refine ⟨⟨cs', a1, by rw [a2]; simp, fun i hi => ?_⟩, fun B hB w0 hb => a4 B hB w0 (hb.setCell (p := ⟨b, o, none⟩) hB _)⟩
    rw [a3 i (by omega), Array.getElem?_setIfInBounds_ne (by omega)]
/-- What a predicate answers on some numbers, in whatever world all that was there stays. -/
def Pred (g : FuncId) (cb : Array Value) (Q : Nat → Bool) (w0 : World) (l : List Nat) : Prop := ∀ i, i ∈ l → ∀ w1, Below w0.heap.size w0 w1 → Calls Try.prog g (#[.int .i64 (i : Nat)] ++ cb) w1 fun e w' => e = .returned (.bool (Q i)) ∧ Below w1.heap.size w1 w'
theorem nums_at (l : List Nat) {i x : Nat} (h : l[i]? = some x) : (nums l)[i]? = some (.int .i64 (x : Nat)) := by
  unfold nums
  rw [List.getElem?_map, h]
  rfl
/-- Numbers that lie at the beginning of a block. -/
def Nl (w : World) (b cap : Nat) (l : List Nat) : Prop := ∃ cs : Array Value, w.heap[b]? = some (.cells cs 3 (0, 0)) ∧ cs.size = cap ∧ l.length ≤ cap ∧ cap ≤ maxLen ∧ ∀ (i : Nat) x, l[i]? = some x → cs[i]? = some (.int .i64 (x : Nat))
theorem Nl.keep {w w' : World} {b cap : Nat} {l : List Nat} (h : Nl w b cap l) (hb : w'.heap[b]? = w.heap[b]?) : Nl w' b cap l := by
  obtain ⟨cs, h1, h2⟩ := h
  exact ⟨cs, by rw [hb, h1], h2⟩
theorem Nl.row {w : World} {b cap B : Nat} {l : List Nat} (h : Nl w b cap l) (hB : B ≤ b) : w.ownsRow B 3 1 (.slice (some ⟨b, 0, none⟩) l.length cap) l.length (nums l) := by
  obtain ⟨cs, h1, h2, h3, h4, h5⟩ := h
  refine ⟨by rw [nums_len, Nat.mul_one], .inr ⟨b, cap, cs, rfl, hB, h1, h3, h4, by omega, ?_⟩⟩
  apply List.ext_getElem?
  intro i
  rw [Nat.mul_one]
  rcases Nat.lt_or_ge i l.length with hi | hi
  · obtain ⟨x, hx⟩ : ∃ x, l[i]? = some x := ⟨_, List.getElem?_eq_getElem hi⟩
    rw [List.getElem?_take_of_lt hi, nums_at l hx]
    have := h5 i x hx
    simpa using this
  · rw [List.getElem?_eq_none (by rw [List.length_take]; omega), List.getElem?_eq_none (by rw [nums_len]; omega)]
theorem Nl.of_row {w : World} {B : Nat} {v : Value} {l : List Nat} (h : w.ownsRow B 3 1 v l.length (nums l)) (hl : l ≠ []) : ∃ b cap, v = .slice (some ⟨b, 0, none⟩) l.length cap ∧ B ≤ b ∧ Nl w b cap l := by
  obtain ⟨_, ⟨_, h0⟩ | ⟨b, cap, cs, rfl, hB, h1, h3, h4, h5, h6⟩⟩ := h
  · exact absurd (List.eq_nil_of_length_eq_zero h0) hl
  · refine ⟨b, cap, rfl, hB, cs, h1, by omega, h3, h4, fun i x hx => ?_⟩
    have hi := (List.getElem?_eq_some_iff.1 hx).1
    have h7 := nums_at l hx
    rw [← h6, Nat.mul_one, List.getElem?_take_of_lt hi] at h7
    simpa using h7
def IdxPost (w : World) (Q : Nat → Bool) (l : List Nat) (e : Ending) (w' : World) : Prop := ∃ r : Int, e = .returned (.int .i64 r) ∧ Below w.heap.size w w' ∧ ((r = -1 ∧ ∀ x, x ∈ l → Q x = false) ∨ ∃ (k : Nat) (x : Nat), r = (k : Nat) ∧ l[k]? = some x ∧ Q x = true ∧ ∀ (j : Nat) y, j < k → l[j]? = some y → Q y = false)
theorem idx_any (g : FuncId) (cb : Array Value) (Q : Nat → Bool) (w0 w : World) (b cap : Nat) (l : List Nat) (eg : ∀ args w, (callFunc g args).run Try.prog w = .ok (.enter g args) w) (hp : Pred g cb Q w0 l) (hw : Below w0.heap.size w0 w) (hl : Nl w b cap l) (hn : l.length ≤ 16) :
    Calls Try.prog 77 #[.slice (some ⟨b, 0, none⟩) l.length cap, .func (.func g) #[] cb] w (IdxPost w Q l) := by
  have HP := hid hp
  have HW := hid hw
  have HL := hid hl
  have hbl : b < w.heap.size := by
    obtain ⟨cs, h1, _⟩ := hl
    exact lt_of h1
  obtain ⟨n, hnl⟩ : ∃ n, n = l.length := ⟨_, rfl⟩
  rw [← hnl] at hn ⊢
  have HN := hid hnl
  clear hp hw hl hnl
  go_enter Try.func77, Try.ntmps77
  go_wp2_with fail
  go_loopw [8] (fun x wr => ∃ k : Nat, k ≤ n ∧ x = .int .i64 k ∧ Below w.heap.size w wr ∧ ∀ (j : Nat) y, j < k → l[j]? = some y → Q y = false) (fun x _ => n - (intOf x).toNat)
  case atStart => exact ⟨0, Nat.zero_le _, rfl, Below.refl _ _, fun j y hj => by omega⟩
  case round =>
    obtain ⟨k, hk, rfl, hg, hr⟩ := hrel
    have HG := hid hg
    have HR := hid hr
    clear hg hr
    by_cases hlt : k < n
    · have hlt' : (k : Int) < (n : Int) := by omega
      obtain ⟨x, hx⟩ : ∃ x, l[k]? = some x := ⟨_, List.getElem?_eq_getElem (by have := HN.out; omega)⟩
      have c0 : wr.cell? ⟨b, k, none⟩ = some (.int .i64 (x : Nat)) := by
        obtain ⟨cs, h1, _, _, _, h5⟩ := HL.out.keep (HG.out.block b hbl)
        exact (cell_of h1 k).trans (h5 k x hx)
      have KP := hid (HP.out x (List.mem_of_getElem? hx) wr (HW.out.trans (HG.out.mono (by have := HW.out.size; omega))))
      have HX := hid hx
      clear hx
      cases hq : Q x with
      | true =>
        rw [hq] at KP
        have HQ := hid hq
        clear hq
        go_wp2_with (go_at_fn g; refine KP.out.mono ?_; rintro _ w2 ⟨rfl, hb⟩; have g2 := hid (below_step HG.out HG.out.size hb); clear hb)
        go_returns
        exact ⟨_, rfl, g2.out, .inr ⟨k, x, rfl, HX.out, HQ.out, HR.out⟩⟩
      | false =>
        rw [hq] at KP
        have HQ := hid hq
        clear hq
        go_wp2_with (go_at_fn g; refine KP.out.mono ?_; rintro _ w2 ⟨rfl, hb⟩; have g2 := hid (below_step HG.out HG.out.size hb); clear hb)
        go_roundw
        case rel =>
          refine ⟨k + 1, by omega, by go_num, g2.out, fun j y hj hy => ?_⟩
          rcases Nat.lt_or_ge j k with h | h
          · exact HR.out j y h hy
          · obtain rfl : j = k := by omega
            rw [HX.out] at hy
            cases hy
            exact HQ.out
        case measure => simp [intOf]; omega
    · obtain rfl : k = n := by omega
      go_wp2_with fail
      go_returns
      refine ⟨_, rfl, HG.out, .inl ⟨rfl, fun x hx => ?_⟩⟩
      obtain ⟨j, hj⟩ := List.getElem?_of_mem hx
      exact HR.out j x (by have := (List.getElem?_eq_some_iff.1 hj).1; have := HN.out; omega) hj
theorem idx_nil (g : FuncId) (cb : Array Value) (w : World) : Calls Try.prog 77 #[.slice none 0 0, .func (.func g) #[] cb] w fun e w' => e = .returned (.int .i64 (-1)) ∧ w = w' := by
  go_enter Try.func77, Try.ntmps77
  go_wp2_with fail
  go_loop [8] (fun x => x = .int .i64 0) (fun _ => 0)
  case atStart => rfl
  case round =>
    subst hrel
    go_wp2_with fail
    go_returns
    exact ⟨rfl, rfl⟩
end Go.Proofs.Ythkofnahimlijaa
