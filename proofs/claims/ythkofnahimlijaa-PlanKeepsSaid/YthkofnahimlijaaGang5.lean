/- slices.DeleteFunc over numbers of the call's own, with a predicate that makes memory of its own. Conditions: what the predicate answers. -/
import Derived.Test.YthkofnahimlijaaGang4
namespace Go.Proofs.Ythkofnahimlijaa
open Go Go.RowKit
def keepL (Q : Nat → Bool) (l : List Nat) (j : Nat) : List Nat := (l.take j).filter fun x => !Q x
theorem keepL_succ (Q : Nat → Bool) {l : List Nat} {j x : Nat} (h : l[j]? = some x) : keepL Q l (j + 1) = if Q x = true then keepL Q l j else keepL Q l j ++ [x] := by
  unfold keepL
  rw [List.take_add_one, h, List.filter_append]
  cases hq : Q x <;> simp [hq]
theorem keepL_le (Q : Nat → Bool) (l : List Nat) (j : Nat) : (keepL Q l j).length ≤ j := by
  unfold keepL
  have h1 := List.length_filter_le (fun x => !Q x) (l.take j)
  have h2 := List.length_take_le j l
  omega
theorem keepL_none (Q : Nat → Bool) (l : List Nat) : ∀ j, (∀ (i : Nat) y, i < j → l[i]? = some y → Q y = false) → j ≤ l.length → keepL Q l j = l.take j
  | 0, _, _ => by simp [keepL]
  | j + 1, h, hj => by
    obtain ⟨x, hx⟩ : ∃ x, l[j]? = some x := ⟨_, List.getElem?_eq_getElem (by omega)⟩
    rw [keepL_succ Q hx, h j x (by omega) hx, keepL_none Q l j (fun i y hi hy => h i y (by omega) hy) (by omega), List.take_add_one, hx]
    rfl
def DelPost (w0 : World) (l : List Nat) (e : Ending) (w' : World) : Prop := ∃ v', e = .returned v' ∧ w'.ownsRow w0.heap.size 3 1 v' l.length (nums l) ∧ Below w0.heap.size w0 w'
/-- The row while it is cut: the first of it hold what is kept, those not yet seen stand as they stood. -/
def Cut (w : World) (b cap : Nat) (l k : List Nat) (j : Nat) : Prop := ∃ cs : Array Value, w.heap[b]? = some (.cells cs 3 (0, 0)) ∧ cs.size = cap ∧ (∀ (t : Nat) x, k[t]? = some x → cs[t]? = some (.int .i64 (x : Nat))) ∧ ∀ (t : Nat) x, j ≤ t → l[t]? = some x → cs[t]? = some (.int .i64 (x : Nat))
theorem Cut.keep {w w' : World} {b cap j : Nat} {l k : List Nat} (h : Cut w b cap l k j) (hb : w'.heap[b]? = w.heap[b]?) : Cut w' b cap l k j := by
  obtain ⟨cs, h1, h2⟩ := h
  exact ⟨cs, by rw [hb, h1], h2⟩
theorem zero_int (w : World) : (zeroValue 3).run Try.prog w = .ok (.int .i64 0) w := Try.zeroValue3 w
set_option maxHeartbeats 2000000 in
theorem del_any (g : FuncId) (cb : Array Value) (Q : Nat → Bool) (w0 w : World) (b cap : Nat) (l : List Nat) (eg : ∀ args w, (callFunc g args).run Try.prog w = .ok (.enter g args) w) (hp : Pred g cb Q w0 l) (hw : Below w0.heap.size w0 w) (hl : Nl w b cap l) (hn : l.length ≤ 16) (hB : w0.heap.size ≤ b) :
    Calls Try.prog 58 #[.slice (some ⟨b, 0, none⟩) l.length cap, .func (.func g) #[] cb] w (DelPost w0 (l.filter fun x => !Q x)) := by
  have KI := hid (idx_any g cb Q w0 w b cap l eg hp hw hl hn)
  have HP := hid hp
  have HW := hid hw
  have HL := hid hl
  have hcap : l.length ≤ cap ∧ cap ≤ maxLen := by
    obtain ⟨cs, _, _, h3, h4, _⟩ := hl
    exact ⟨h3, h4⟩
  have hbl : b < w.heap.size := by
    obtain ⟨cs, h1, _⟩ := hl
    exact lt_of h1
  unfold maxLen at hcap
  have HF := hid (show keepL Q l l.length = l.filter (fun x => !Q x) by unfold keepL; rw [List.take_length])
  obtain ⟨n, hnl⟩ : ∃ n, n = l.length := ⟨_, rfl⟩
  rw [← hnl] at hn hcap KI HF ⊢
  have HN := hid hnl
  clear hp hw hl hnl
  go_enter Try.func58, Try.ntmps58
  go_wp2_with fail
  refine KI.out.mono ?_
  rintro _ w2 ⟨r, rfl, hb, hr⟩
  have g2 := hid (HW.out.trans (hb.mono (by have := HW.out.size; omega)))
  have L2 := hid (HL.out.keep (hb.block b hbl))
  have hbl2 : b < w2.heap.size := by have := hb.size; omega
  clear hb KI HL HW
  rcases hr with ⟨rfl, hall⟩ | ⟨k, x, rfl, hx, hqx, hk⟩
  · have HA := hid (show l.filter (fun x => !Q x) = l from List.filter_eq_self.2 fun x hx => by rw [hall x hx]; rfl)
    clear hall
    go_wp2_with fail
    go_returns
    rw [HA.out]
    exact ⟨.slice (some ⟨b, 0, none⟩) l.length cap, by rw [← HN.out]; rfl, L2.out.row hB, g2.out⟩
  · have hkn : k < n := by have := (List.getElem?_eq_some_iff.1 hx).1; have := HN.out; omega
    have hk1 : ((k : Int) == -1) = false := beq_eq_false_iff_ne.2 (by omega)
    have HK := hid (show keepL Q l (k + 1) = l.take k by rw [keepL_succ Q hx, if_pos hqx]; exact keepL_none Q l k hk (by have := HN.out; omega))
    have HC := hid (show Cut w2 b cap l (l.take k) (k + 1) from by
      obtain ⟨cs, h1, h2, _, _, h5⟩ := L2.out
      exact ⟨cs, h1, h2, fun t y hy => h5 t y (by rw [List.getElem?_take] at hy; split at hy <;> simp_all), fun t y _ hy => h5 t y hy⟩)
    have hkl : (l.take k).length = k := by rw [List.length_take]; have := HN.out; omega
    have HKL := hid hkl
    clear hk hx hqx L2 hkl
    go_wp2_with fail
    go_loopw [5, 6] (fun y z wr => ∃ (i j : Nat), y = .int .i64 i ∧ z = .int .i64 j ∧ j ≤ n ∧ i < j ∧ i = (keepL Q l j).length ∧ Cut wr b cap l (keepL Q l j) j ∧ Below w0.heap.size w0 wr ∧ b < wr.heap.size) (fun _ z _ => n - (intOf z).toNat)
    case atStart => exact ⟨k, k + 1, rfl, by go_num, by omega, by omega, by rw [HK.out, HKL.out], by rw [HK.out]; exact HC.out, g2.out, hbl2⟩
    case round =>
      clear HK HKL HC g2 hbl2 hk1
      obtain ⟨i, j, rfl, rfl, hjn, hij, hi, hC, hg, hbr⟩ := hrel
      have HI := hid hi
      have HC := hid hC
      have HG := hid hg
      clear hi hC hg
      by_cases hlt : j < n
      · have hlt' : (j : Int) < (n : Int) := by omega
        obtain ⟨x, hx⟩ : ∃ x, l[j]? = some x := ⟨_, List.getElem?_eq_getElem (by have := HN.out; omega)⟩
        have c0 : wr.cell? ⟨b, j, none⟩ = some (.int .i64 (x : Nat)) := by
          obtain ⟨cs, h1, _, _, h5⟩ := HC.out
          exact (cell_of h1 j).trans (h5 j x (Nat.le_refl _) hx)
        have KP := hid (HP.out x (List.mem_of_getElem? hx) wr HG.out)
        have HS := hid (keepL_succ Q hx)
        have HX := hid hx
        clear hx
        cases hq : Q x with
        | true =>
          rw [hq] at KP HS
          have HS2 := hid (show keepL Q l (j + 1) = keepL Q l j from HS.out)
          clear hq
          go_wp2_with (go_at_fn g; refine KP.out.mono ?_; rintro _ w3 ⟨rfl, hb⟩; have g3 := hid (HG.out.trans (hb.mono (by have := HG.out.size; omega))); have C3 := hid (HC.out.keep (hb.block b hbr)); have hb3 : b < w3.heap.size := (by have := hb.size; omega); clear hb)
          go_roundw
          case rel =>
            refine ⟨i, j + 1, rfl, by go_num, by omega, by omega, by rw [HS2.out]; exact HI.out, ?_, g3.out, hb3⟩
            rw [HS2.out]
            obtain ⟨cs, h1, h2, h3, h4⟩ := C3.out
            exact ⟨cs, h1, h2, h3, fun t y ht hy => h4 t y (by omega) hy⟩
          case measure => simp [intOf]; omega
        | false =>
          rw [hq] at KP HS
          have HS2 := hid (show keepL Q l (j + 1) = keepL Q l j ++ [x] from HS.out)
          clear hq
          have hin : (i : Int) < (n : Int) := by omega
          go_wp2_with (go_at_fn g; refine KP.out.mono ?_; rintro _ w3 ⟨rfl, hb⟩; have g3 := hid (HG.out.trans (hb.mono (by have := HG.out.size; omega))); have C3 := hid (HC.out.keep (hb.block b hbr)); have hb3 : b < w3.heap.size := (by have := hb.size; omega); obtain ⟨old, cI, fI⟩ : ∃ old, w3.cell? ⟨b, i, none⟩ = some old ∧ w3.frozen? ⟨b, i, none⟩ = false := (by
            obtain ⟨cs, h1, h2, _⟩ := C3.out
            exact ⟨cs[i]'(by omega), (cell_of h1 i).trans (Array.getElem?_eq_getElem (by omega)), free_of h1 i⟩); clear hb)
          go_roundw
          case rel =>
            refine ⟨i + 1, j + 1, by go_num, by go_num, by omega, by omega, by rw [HS2.out, List.length_append, ← HI.out]; rfl, ?_, g3.out.setCell (p := ⟨b, i, none⟩) hB _, by simpa using hb3⟩
            rw [HS2.out]
            obtain ⟨cs, h1, h2, h3, h4⟩ := C3.out
            refine ⟨_, heap_setCell_same w3 b i cs 3 (.int .i64 (x : Nat)) h1, by simpa using h2, fun t y hy => ?_, fun t y ht hy => ?_⟩
            · rcases Nat.lt_or_ge t i with h | h
              · rw [Array.getElem?_setIfInBounds_ne (by omega)]
                rw [List.getElem?_append_left (by rw [← HI.out]; exact h)] at hy
                exact h3 t y hy
              · rw [List.getElem?_append_right (by rw [← HI.out]; exact h), ← HI.out] at hy
                have hti : t = i := by
                  rcases Nat.eq_or_lt_of_le h with h' | h'
                  · exact h'.symm
                  · rw [List.getElem?_eq_none (by simp; omega)] at hy
                    cases hy
                subst hti
                simp at hy
                subst hy
                rw [Array.getElem?_setIfInBounds_self_of_lt (by omega)]
            · rw [Array.getElem?_setIfInBounds_ne (by omega)]
              exact h4 t y (by omega) hy
          case measure => simp [intOf]; omega
      · obtain rfl : j = n := by omega
        have hcl : ∀ ty, (Builtin.clear_ #[31] ty #[.slice (some ⟨b, i, none⟩) (j - i) (cap - i)]).run Try.prog wr = .ok (.tuple #[]) (wr.setCells b i (List.replicate (j - i) (.int .i64 0))) := fun ty => by
          obtain ⟨cs, h1, h2, _⟩ := HC.out
          exact Go.Lib.run_clear_slice wr 31 3 ty (.int .i64 0) Try.underlying31 zero_int rfl rfl b i _ _ (by omega) (fun t ht => by rw [cell_of h1, Array.getElem?_eq_getElem (by omega)]; rfl) (fun t ht => free_of h1 _)
        have hin : (i : Int) ≤ (j : Int) := by omega
        have hic : i < cap := by omega
        go_wp2_with fail
        go_returns
        obtain ⟨cs, h1, h2, h3, _⟩ := HC.out
        obtain ⟨⟨cs', a1, a2, a3⟩, a4⟩ := setCells_facts b (List.replicate (j - i) (.int .i64 0)) i wr cs 3 h1
        have hNl : Nl (wr.setCells b i (List.replicate (j - i) (.int .i64 0))) b cap (l.filter fun x => !Q x) := by
          rw [← HF.out]
          refine ⟨cs', a1, by rw [a2, h2], by rw [← HI.out]; omega, by unfold maxLen; omega, fun t y hy => ?_⟩
          have := (List.getElem?_eq_some_iff.1 hy).1
          rw [a3 t (by rw [HI.out]; exact this)]
          exact h3 t y hy
        have hrow := hNl.row hB
        have hlen : (l.filter fun x => !Q x).length = i := by rw [← HF.out]; exact HI.out.symm
        exact ⟨.slice (some ⟨b, 0, none⟩) (l.filter fun x => !Q x).length cap, by rw [hlen]; rfl, hrow, a4 _ hB _ HG.out⟩
theorem del_nil (g : FuncId) (cb : Array Value) (w : World) : Calls Try.prog 58 #[.slice none 0 0, .func (.func g) #[] cb] w fun e w' => e = .returned (.slice none 0 0) ∧ w = w' := by
  have KI := hid (idx_nil g cb w)
  go_enter Try.func58, Try.ntmps58
  go_wp2_with fail
  refine KI.out.mono ?_
  rintro _ w2 ⟨rfl, rfl⟩
  go_wp2_with fail
  go_returns
  exact ⟨rfl, rfl⟩
end Go.Proofs.Ythkofnahimlijaa
