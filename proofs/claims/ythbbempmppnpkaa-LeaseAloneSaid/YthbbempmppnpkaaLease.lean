/- The lease package's and the document's functions on claims, at any claims. Condition: the disk stands in memory. -/
import Derived.Test.YthbbempmppnpkaaSwap
namespace Go.Proofs.Ythbbempmppnpkaa
open Go Go.RowKit
def Clm.ok (c : Clm) : Prop := (-9223372036854775808 ≤ c.e ∧ c.e ≤ 9223372036854775807) ∧ (-9223372036854775808 ≤ c.w ∧ c.w ≤ 9223372036854775807) ∧ (-9223372036854775808 ≤ c.u ∧ c.u ≤ 9223372036854775807)
def tickB (t : Int) : Bool := decide (0 ≤ t ∧ t < 1099511627776)
def leadsB (c : Clm) (t : Int) : Bool := decide (0 < c.e ∧ t < c.u)
def freeB (c : Clm) (who now : Int) : Bool := decide ((c.e ≤ 0 ∨ c.w = who) ∨ (¬ 2199023255552 < c.u ∧ c.u + 2 ≤ now))
def heldF (c : Clm) (who now : Int) : Int := if freeB c who now = true then (if 1099511627776 ≤ c.e then 2 else 0) else 170
def takeF (c : Clm) (who now : Int) : Clm × Int := if who < 0 ∨ tickB now = false then (⟨0, 0, 0⟩, 1) else if freeB c who now = false then (⟨0, 0, 0⟩, 170) else if 1099511627776 ≤ c.e then (⟨0, 0, 0⟩, 2) else (⟨c.e + 1, who, now + 40⟩, 0)
def nextF (c : Clm) (now : Int) : Clm := ⟨c.e, c.w, max c.u (now + 40)⟩
open Classical in
noncomputable def renewF (d c : Clm) (now : Int) : Clm × Int := if tickB now = false then (⟨0, 0, 0⟩, 1) else if leadsB c now = false then (⟨0, 0, 0⟩, 171) else if 1099511627776 < c.e then (⟨0, 0, 0⟩, 1) else if d = c then (nextF c now, 0) else (⟨0, 0, 0⟩, 150)
theorem istick_any (t : Int) (w : World) : Calls Try.prog 24 #[.int .i64 t] w fun e w' => e = .returned (.bool (tickB t)) ∧ w = w' := by
  go_enter Try.func24, Try.ntmps24
  go_wp2
  all_goals go_returns
  all_goals exact ⟨ret_bool (by rw [Bool.eq_iff_iff]; simp [tickB]; try omega), rfl⟩
theorem tick_any (t : Int) (w : World) : Calls Try.prog 19 #[.int .i64 t] w fun e w' => e = .returned (.bool (tickB t)) ∧ w = w' := by
  go_enter Try.func19, Try.ntmps19
  go_wp2
  all_goals go_returns
  all_goals exact ⟨ret_bool (by rw [Bool.eq_iff_iff]; simp [tickB]; try omega), rfl⟩
theorem leads_any (c : Clm) (t : Int) (w : World) : Calls Try.prog 14 #[.agg c.cells, .int .i64 t] w fun e w' => e = .returned (.bool (leadsB c t)) ∧ Below w.heap.size w w' := by
  obtain ⟨e, wh, u⟩ := c
  simp only [Clm.cells]
  go_enter Try.func14, Try.ntmps14
  go_wp2
  all_goals go_returns
  all_goals exact ⟨ret_bool (by rw [Bool.eq_iff_iff]; simp [leadsB]; try omega), by go_grown⟩
theorem refleads_any (c : Clm) (t : Int) (w : World) : Calls Try.prog 17 #[.agg c.cells, .int .i64 t] w fun e w' => e = .returned (.bool (leadsB c t)) ∧ Below w.heap.size w w' := by
  obtain ⟨e, wh, u⟩ := c
  simp only [Clm.cells]
  go_enter Try.func17, Try.ntmps17
  go_wp2
  all_goals go_returns
  all_goals exact ⟨ret_bool (by rw [Bool.eq_iff_iff]; simp [leadsB]; try omega), by go_grown⟩
theorem free_any (c : Clm) (who t : Int) (w : World) (hc : c.ok) : Calls Try.prog 27 #[.agg c.cells, .int .i64 who, .int .i64 t] w fun e w' => e = .returned (.bool (freeB c who t)) ∧ Below w.heap.size w w' := by
  obtain ⟨e, wh, u⟩ := c
  obtain ⟨_, _, hu1, hu2⟩ := hc
  simp only [Clm.cells] at *
  by_cases h1 : e ≤ 0
  · go_enter Try.func27, Try.ntmps27
    go_wp2
    all_goals go_returns
    all_goals exact ⟨ret_bool (by rw [Bool.eq_iff_iff]; simp [freeB]; try omega), by go_grown⟩
  · by_cases h2 : wh = who
    · subst h2
      go_enter Try.func27, Try.ntmps27
      go_wp2
      all_goals go_returns
      all_goals exact ⟨ret_bool (by rw [Bool.eq_iff_iff]; simp [freeB]; try omega), by go_grown⟩
    · have h2' : (wh == who) = false := by simpa using h2
      by_cases h3 : 2199023255552 < u
      · go_enter Try.func27, Try.ntmps27
        go_wp2
        all_goals go_returns
        all_goals exact ⟨ret_bool (by rw [Bool.eq_iff_iff]; simp [freeB]; try omega), by go_grown⟩
      · go_enter Try.func27, Try.ntmps27
        go_wp2
        all_goals go_returns
        all_goals exact ⟨ret_bool (by rw [Bool.eq_iff_iff]; simp [freeB]; try omega), by go_grown⟩
theorem held_any (c : Clm) (who t : Int) (w : World) (hc : c.ok) : Calls Try.prog 25 #[.agg c.cells, .int .i64 who, .int .i64 t] w fun e w' => e = .returned (.int .i64 (heldF c who t)) ∧ Below w.heap.size w w' := by
  have hF : heldF c who t = if ((c.e ≤ 0 ∨ c.w = who) ∨ (¬ 2199023255552 < c.u ∧ c.u + 2 ≤ t)) then (if 1099511627776 ≤ c.e then 2 else 0) else 170 := by
    unfold heldF freeB
    simp only [decide_eq_true_eq]
  have HF := hid hF
  clear hF
  obtain ⟨e, wh, u⟩ := c
  obtain ⟨_, _, hu1, hu2⟩ := hc
  simp only [Clm.cells] at *
  by_cases h1 : e ≤ 0
  · go_enter Try.func25, Try.ntmps25
    go_wp2
    all_goals go_returns
    all_goals exact ⟨ret_i64 (by rw [HF.out, if_pos (by omega), if_neg (by omega)]), by go_grown⟩
  · by_cases h2 : wh = who
    · subst h2
      by_cases h5 : 1099511627776 ≤ e
      · go_enter Try.func25, Try.ntmps25
        go_wp2
        all_goals go_returns
        all_goals exact ⟨ret_i64 (by rw [HF.out, if_pos (.inl (.inr (by first | rfl | trivial))), if_pos (by omega)]), by go_grown⟩
      · go_enter Try.func25, Try.ntmps25
        go_wp2
        all_goals go_returns
        all_goals exact ⟨ret_i64 (by rw [HF.out, if_pos (.inl (.inr (by first | rfl | trivial))), if_neg (by omega)]), by go_grown⟩
    · have h2' : (wh == who) = false := by simpa using h2
      by_cases h3 : 2199023255552 < u
      · go_enter Try.func25, Try.ntmps25
        go_wp2
        all_goals go_returns
        all_goals exact ⟨ret_i64 (by rw [HF.out, if_neg (by omega)]), by go_grown⟩
      · by_cases h4 : t < u + 2
        · go_enter Try.func25, Try.ntmps25
          go_wp2
          all_goals go_returns
          all_goals exact ⟨ret_i64 (by rw [HF.out, if_neg (by omega)]), by go_grown⟩
        · by_cases h5 : 1099511627776 ≤ e
          · go_enter Try.func25, Try.ntmps25
            go_wp2
            all_goals go_returns
            all_goals exact ⟨ret_i64 (by rw [HF.out, if_pos (by omega), if_pos (by omega)]), by go_grown⟩
          · go_enter Try.func25, Try.ntmps25
            go_wp2
            all_goals go_returns
            all_goals exact ⟨ret_i64 (by rw [HF.out, if_pos (by omega), if_neg (by omega)]), by go_grown⟩
end Go.Proofs.Ythbbempmppnpkaa
