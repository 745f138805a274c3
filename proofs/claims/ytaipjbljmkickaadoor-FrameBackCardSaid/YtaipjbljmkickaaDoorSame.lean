/- The document's Same at two rows of the same bytes. Condition: the rows stand in memory. -/
import Derived.Test.YtaipjbljmkickaaDoorRefScan
namespace Go.Proofs.YtaipjbljmkickaaDoor
open Go Go.RowKit
/-- The slice at A reads as these rows of bytes. -/
def Rd (w : World) (A : Option Addr) (xs : List (List UInt8)) : Prop :=
  xs = [] ∨ ∃ b off, A = some ⟨b, off, none⟩ ∧ b < w.heap.size ∧ ∀ (j : Nat) x, xs[j]? = some x → ∃ A' c', w.cell? ⟨b, off + j, none⟩ = some (.slice A' x.length c') ∧ Bts w A' x
theorem Rd.keep {w w' : World} {A : Option Addr} {xs : List (List UInt8)} (h : Rd w A xs) (hb : Below w.heap.size w w') : Rd w' A xs := by
  rcases h with e | ⟨b, off, rfl, hlt, hc⟩
  · exact .inl e
  · refine .inr ⟨b, off, rfl, Nat.lt_of_lt_of_le hlt hb.size, fun j x hx => ?_⟩
    obtain ⟨A', c', h1, h2⟩ := hc j x hx
    exact ⟨A', c', by rw [hb.cell (p := ⟨b, off + j, none⟩) hlt]; exact h1, h2.keep hb⟩
theorem row_cells {w : World} {B n : Nat} {v : Value} {cells : List Value} (h : w.ownsRow B 22 1 v n cells) (hl : cells.length = n) : ∃ A c, v = .slice A n c ∧ n ≤ c ∧ (A = none → c = 0) ∧ (n = 0 ∨ ∃ b, A = some ⟨b, 0, none⟩ ∧ b < w.heap.size ∧ B ≤ b ∧ (∃ cur, w.heap[b]? = some (.cells cur 22 (0, 0))) ∧ ∀ (j : Nat) u, cells[j]? = some u → w.cell? ⟨b, j, none⟩ = some u) := by
  obtain ⟨_, ⟨rfl, h0⟩ | ⟨g, cap, cur, rfl, hb, hh, hn, hcap, hcur, htake⟩⟩ := h
  · exact ⟨none, 0, by rw [h0], by omega, fun _ => rfl, .inl h0⟩
  · refine ⟨some ⟨g, 0, none⟩, cap, rfl, hn, (fun e => by cases e), .inr ⟨g, rfl, lt_of hh, hb, ⟨cur, hh⟩, fun j u hu => ?_⟩⟩
    rw [cell_of hh, ← Array.getElem?_toList]
    have hj := (List.getElem?_eq_some_iff.1 hu).1
    rw [← htake, List.getElem?_take, if_pos (by omega)] at hu
    exact hu
theorem OwnB.is {w : World} {B : Nat} {v : Value} {xs : List (List UInt8)} (h : OwnB w B v xs) : ∃ A c, v = .slice A xs.length c ∧ Rd w A xs ∧ xs.length ≤ c := by
  obtain ⟨cells, h1, h2, h3⟩ := h
  obtain ⟨A, c, rfl, hc, _, h0 | ⟨b, rfl, hlt, _, _, hcc⟩⟩ := row_cells h1 h2
  · exact ⟨A, c, rfl, .inl (List.eq_nil_of_length_eq_zero h0), hc⟩
  · refine ⟨_, c, rfl, .inr ⟨b, 0, rfl, hlt, fun j x hx => ?_⟩, hc⟩
    obtain ⟨u, hu, ho⟩ := h3 j x hx
    obtain ⟨A', c', rfl, hb, _, _⟩ := ho.is
    exact ⟨A', c', by rw [Nat.zero_add]; exact hcc j _ hu, hb⟩
theorem RowB.is {w : World} {B : Nat} {v : Value} {xs : List (List UInt8)} (h : RowB w B v xs) : ∃ A c, v = .slice A xs.length c ∧ Rd w A xs ∧ xs.length ≤ c := by
  obtain ⟨cells, h1, h2, h3⟩ := h
  obtain ⟨A, c, rfl, hc, _, h0 | ⟨b, rfl, hlt, _, _, hcc⟩⟩ := row_cells h1 h2
  · exact ⟨A, c, rfl, .inl (List.eq_nil_of_length_eq_zero h0), hc⟩
  · refine ⟨_, c, rfl, .inr ⟨b, 0, rfl, hlt, fun j x hx => ?_⟩, hc⟩
    obtain ⟨A', c', hu, hb, _⟩ := h3 j x hx
    exact ⟨A', c', by rw [Nat.zero_add]; exact hcc j _ hu, hb⟩
set_option maxHeartbeats 1000000 in
theorem same_any (A A2 : Option Addr) (c c2 : Nat) (xs : List (List UInt8)) (w : World) (h1 : Rd w A xs) (h2 : Rd w A2 xs) (hlen : xs.length ≤ 1099511627776) :
    Calls Tryd.prog 18 #[.slice A xs.length c, .slice A2 xs.length c2] w fun e w' => e = .returned (.bool true) ∧ ∃ k, w' = w.drewN k := by
  have H1 := hid h1
  have H2 := hid h2
  have hl : (xs.length : Int) ≤ 1099511627776 := by omega
  clear h1 h2
  go_enter Tryd.func18, Tryd.ntmps18
  go_wp2_with fail
  go_loopw [5] (fun i wr => ∃ k m : Nat, k ≤ xs.length ∧ i = .int .i64 k ∧ wr = w.drewN m) (fun i _ => xs.length - (intOf i).toNat)
  case atStart => exact ⟨0, 0, Nat.zero_le _, rfl, rfl⟩
  case round =>
    obtain ⟨k, m, hk, rfl, hwr⟩ := hrel
    have HW := hid hwr
    by_cases hlt : k < xs.length
    · have hlt' : (k : Int) < (xs.length : Int) := by omega
      rcases H1.out with rfl | ⟨b, off, rfl, _, hc⟩
      · simp at hlt
      · rcases H2.out with rfl | ⟨b2, off2, rfl, _, hc2⟩
        · simp at hlt
        · obtain ⟨A3, c3, hx, hb⟩ := hc k xs[k] (List.getElem?_eq_getElem hlt)
          obtain ⟨A4, c4, hx2, hb2⟩ := hc2 k xs[k] (List.getElem?_eq_getElem hlt)
          generalize xs[k] = x at *
          have e1 : wr.cell? ⟨b, off + k, none⟩ = some (.slice A3 x.length c3) := by rw [hwr]; exact hx
          have e2 : wr.cell? ⟨b2, off2 + k, none⟩ = some (.slice A4 x.length c4) := by rw [hwr]; exact hx2
          have s1 : ∀ q, (convert 22 9 (.slice A3 x.length c3)).run Tryd.prog (wr.drewN q) = .ok (.string ⟨x.toArray⟩) (wr.drewN q) := fun q => by rw [hwr]; exact str_of c3 hb
          have s2 : ∀ q, (convert 22 9 (.slice A4 x.length c4)).run Tryd.prog (wr.drewN q) = .ok (.string ⟨x.toArray⟩) (wr.drewN q) := fun q => by rw [hwr]; exact str_of c4 hb2
          generalize (⟨x.toArray⟩ : ByteArray) = S at *
          clear hc hc2 hx hx2 hb hb2 hwr
          go_wp2_with fail
          go_quiet (fail)
          go_wp2_with fail
          all_goals go_roundw
          case rel => exact ⟨k + 1, m + nq, by omega, by go_num, by rw [HW.out, World.drewN_drewN]⟩
          case measure => simp [intOf]; omega
    · obtain rfl : k = xs.length := by omega
      clear hwr
      go_wp2_with fail
      all_goals go_returns
      exact ⟨rfl, m, HW.out⟩
end Go.Proofs.YtaipjbljmkickaaDoor
