/- life.Next at any life and sign gives what nextF gives. Condition: the tables stand as the program's text lays them. -/
import Derived.Test.YtlfbooillhleoaaDoorLoop
import Derived.Test.YtlfbooillhleoaaDoorRight
import Derived.Test.YtlfbooillhleoaaDoorFn
namespace Go.Proofs.YtlfbooillhleoaaDoor
open Go Go.RowKit
theorem nx_row (k : Nat) (hk : k < 14) : nx (rowK k).1 (rowK k).2.1 = (rowK k).2.2 ∧ (rowK k).2.2 ≠ 0 := by
  rcases (by omega : k = 0 ∨ k = 1 ∨ k = 2 ∨ k = 3 ∨ k = 4 ∨ k = 5 ∨ k = 6 ∨ k = 7 ∨ k = 8 ∨ k = 9 ∨ k = 10 ∨ k = 11 ∨ k = 12 ∨ k = 13) with rfl | rfl | rfl | rfl | rfl | rfl | rfl | rfl | rfl | rfl | rfl | rfl | rfl | rfl <;> decide
theorem nx_miss (s sg : Int) (h : missK 14 s sg) : nx s sg = 0 := by
  have g : ∀ k, k < 14 → s = (rowK k).1 → ¬ sg = (rowK k).2.1 := fun k hk h1 h2 => h k hk ⟨h1, h2⟩
  have g0 := g 0 (by omega); have g1 := g 1 (by omega); have g2 := g 2 (by omega); have g3 := g 3 (by omega); have g4 := g 4 (by omega); have g5 := g 5 (by omega); have g6 := g 6 (by omega)
  have g7 := g 7 (by omega); have g8 := g 8 (by omega); have g9 := g 9 (by omega); have g10 := g 10 (by omega); have g11 := g 11 (by omega); have g12 := g 12 (by omega); have g13 := g 13 (by omega)
  simp only [rowK] at g0 g1 g2 g3 g4 g5 g6 g7 g8 g9 g10 g11 g12 g13
  unfold nx
  repeat' split
  all_goals first | rfl | (exfalso; simp_all)
theorem loop_nextF {s a l : Int} {b t : Bool} {sg : Int} {e : Ending} (hr : rightB s a l b t = true) (hx : ¬ (s = 4 ∧ (sg = 8 ∨ (sg = 6 ∧ t = true)))) (h : LoopEnd s a l b t sg e) : e = .returned (rv (nextF s a l b t sg)) := by
  have h1 : ¬ (s = 4 ∧ sg = 8) := fun hh => hx ⟨hh.1, .inl hh.2⟩
  have h2 : ¬ (s = 4 ∧ sg = 6 ∧ t = true) := fun hh => hx ⟨hh.1, .inr hh.2⟩
  rcases h with ⟨k, hk, hs, hg, rfl⟩ | ⟨hm, rfl⟩
  · obtain ⟨n1, n2⟩ := nx_row k hk
    rw [← hs, ← hg] at n1
    apply ret_rv'
    unfold nextF
    rw [if_neg (by rw [hr]; decide), if_neg h1, if_neg h2, if_neg (by rw [n1]; exact n2), n1]
    rfl
  · apply ret_rv'
    unfold nextF
    rw [if_neg (by rw [hr]; decide), if_neg h1, if_neg h2, if_pos (nx_miss _ _ hm)]

set_option maxHeartbeats 1000000 in
theorem next_any (s a l : Int) (b t : Bool) (sg : Int) (w : World) (hT : Tab w) :
    Calls Tryd.prog 10 #[.agg #[.int .i64 s, .int .i64 a, .int .i64 l, .bool b, .bool t], .int .i64 sg] w fun e w' => e = .returned (rv (nextF s a l b t sg)) ∧ Below w.heap.size w w' := by
  cases hr : rightB s a l b t
  · have hn : nextF s a l b t sg = ⟨0, 0, 0, false, false, 1⟩ := by simp [nextF, hr]
    rw [hn]
    have K : ∀ W, Below w.heap.size w W → Calls Tryd.prog 13 #[.agg #[.int .i64 s, .int .i64 a, .int .i64 l, .bool b, .bool t]] W fun e w' => e = .returned (.bool false) ∧ W.alloc (.cells #[.int .i64 s, .int .i64 a, .int .i64 l, .bool b, .bool t] 24) = w' := fun W hb => by rw [← hr]; exact right_any s a l b t W (hT.below hb)
    have K' := hid K
    clear hn hr K hT
    go_enter Tryd.func10, Tryd.ntmps10
    go_wp2_with (go_at_call 13; refine (K'.out _ (by go_grown)).mono ?_; rintro e w1 ⟨rfl, rfl⟩)
    go_returns
    exact ⟨rfl, by go_grown⟩
  · have K : ∀ W, Below w.heap.size w W → Calls Tryd.prog 13 #[.agg #[.int .i64 s, .int .i64 a, .int .i64 l, .bool b, .bool t]] W fun e w' => e = .returned (.bool true) ∧ W.alloc (.cells #[.int .i64 s, .int .i64 a, .int .i64 l, .bool b, .bool t] 24) = w' := fun W hb => by rw [← hr]; exact right_any s a l b t W (hT.below hb)
    have K' := hid K
    obtain ⟨h1, h8, ha, hl, hal⟩ := right_bd hr
    by_cases hx : s = 4 ∧ (sg = 8 ∨ (sg = 6 ∧ t = true))
    · have hn := hid (rfl : nextF s a l b t sg = nextF s a l b t sg)
      have hr' := hid hr
      clear hr K hT hn
      rcases hx with ⟨rfl, rfl | ⟨rfl, rfl⟩⟩
      · have e1 : nextF 4 a l b t 8 = ⟨if t then 8 else if b then 6 else if 0 < l then 1 else 7, a, if t then l else if b then l else if 0 < l then l - 1 else l, false, false, 0⟩ := by simp [nextF, hr'.out]
        rw [e1]
        clear e1
        go_enter Tryd.func10, Tryd.ntmps10
        go_wp2_with (first | (go_at_call 13; refine (K'.out _ (by go_grown)).mono ?_; rintro e w1 ⟨rfl, rfl⟩) | (go_at_call 22; refine (settle_any _ _ _ _ _ _ (by omega) (by omega)).mono ?_; rintro e w2 ⟨rfl, rfl⟩))
        all_goals go_returns
        all_goals exact ⟨by simp [rv, *], by go_grown⟩
      · have e1 : nextF 4 a l b true 6 = ⟨0, 0, 0, false, false, 100⟩ := by simp [nextF, hr'.out]
        rw [e1]
        clear e1
        go_enter Tryd.func10, Tryd.ntmps10
        go_wp2_with (go_at_call 13; refine (K'.out _ (by go_grown)).mono ?_; rintro e w1 ⟨rfl, rfl⟩)
        all_goals go_returns
        all_goals exact ⟨rfl, by go_grown⟩
    · exact (next_loop s a l b t sg w hT h1 h8 ha hl hal hx K').mono fun e w' ⟨h, hb⟩ => ⟨loop_nextF hr hx h, hb⟩
end Go.Proofs.YtlfbooillhleoaaDoor
