/- The keeper of leases, called at any node and tick. Condition: the keeper stands in memory. -/
import Derived.Test.YthbbempmppnpkaaRenew
import Derived.StillTailTactics
import Derived.LoopTactic
namespace Go.Proofs.Ythbbempmppnpkaa
open Go Go.RowKit
def keepCells (n : Int) (F : Nat → Int) : Array Value := (Value.int .i64 n :: (List.range 16).map fun i => Value.int .i64 (F i)).toArray
/-- A keeper of n nodes at block kb: up to which tick each node may have a lease. -/
def KP (w : World) (kb : Nat) (n : Int) (F : Nat → Int) : Prop := w.heap[kb]? = some (.cells (keepCells n F) 66 (0, 0))
theorem KP.keep {w w' : World} {kb : Nat} {n : Int} {F : Nat → Int} (h : KP w kb n F) (hb : Below w.heap.size w w') : KP w' kb n F := keep0 hb h
theorem kp_n {w : World} {kb : Nat} {n : Int} {F : Nat → Int} (h : KP w kb n F) : w.cell? ⟨kb, 0, none⟩ = some (.int .i64 n) := by rw [cell_of h 0]; rfl
theorem keepCells_at (n : Int) (F : Nat → Int) (i : Nat) (hi : i < 16) : (keepCells n F)[1 + i]? = some (.int .i64 (F i)) := by
  unfold keepCells
  rw [Nat.add_comm]
  simp [List.getElem?_range hi]
theorem kp_at {w : World} {kb : Nat} {n : Int} {F : Nat → Int} (h : KP w kb n F) (i : Nat) (hi : i < 16) : w.cell? ⟨kb, 1 + i, none⟩ = some (.int .i64 (F i)) := by
  rw [cell_of h, keepCells_at n F i hi]
def upd (F : Nat → Int) (k : Nat) (v : Int) : Nat → Int := fun i => if i = k then v else F i
theorem keepCells_set (n : Int) (F : Nat → Int) (k : Nat) (v : Int) : (keepCells n F).setIfInBounds (1 + k) (.int .i64 v) = keepCells n (upd F k v) := by
  unfold keepCells
  rw [Nat.add_comm 1 k]
  apply Array.toList_inj.1
  rw [Array.toList_setIfInBounds]
  simp only [List.set_cons_succ, List.cons.injEq, true_and]
  apply List.ext_getElem?
  intro i
  rw [List.getElem?_set]
  by_cases hi : i < 16
  · by_cases h : k = i
    · subst h
      simp [hi, upd]
    · have h2 : ¬ i = k := fun e => h e.symm
      simp [h, List.getElem?_range hi, upd, h2]
  · have h1 : (List.range 16)[i]? = none := List.getElem?_eq_none (by simp; omega)
    by_cases h : k = i
    · subst h
      simp [hi]
    · simp [h, h1]
theorem kp_set {w : World} {kb : Nat} {n : Int} {F : Nat → Int} (h : KP w kb n F) (k : Nat) (v : Int) : KP (w.setCell ⟨kb, 1 + k, none⟩ (.int .i64 v)) kb n (upd F k v) := by
  have := heap_setCell_same w kb (1 + k) _ 66 (.int .i64 v) h
  rw [keepCells_set] at this
  exact this
theorem has_nil (node : Int) (w : World) : Calls Try.prog 28 #[.pointer none, .int .i64 node] w fun e w' => e = .returned (.bool false) ∧ w = w' := by
  go_enter Try.func28, Try.ntmps28
  go_wp2
  all_goals go_returns
  all_goals exact ⟨rfl, rfl⟩
theorem has_any (kb : Nat) (n node : Int) (F : Nat → Int) (w : World) (h : KP w kb n F) : Calls Try.prog 28 #[.pointer (some ⟨kb, 0, none⟩), .int .i64 node] w fun e w' => e = .returned (.bool (decide (0 ≤ node ∧ node < n))) ∧ w = w' := by
  have c0 := kp_n h
  clear h
  go_enter Try.func28, Try.ntmps28
  go_wp2
  all_goals go_returns
  all_goals exact ⟨ret_bool (by rw [Bool.eq_iff_iff]; simp; try omega), rfl⟩
theorem until_no (kb : Option Addr) (node : Int) (w : World) (K : Calls Try.prog 28 #[.pointer kb, .int .i64 node] w fun e w' => e = .returned (.bool false) ∧ w = w') : Calls Try.prog 22 #[.pointer kb, .int .i64 node] w fun e w' => e = .returned (.int .i64 0) ∧ w = w' := by
  have HK := hid K
  clear K
  go_enter Try.func22, Try.ntmps22
  go_wp2_with fail
  refine HK.out.mono ?_
  rintro _ w1 ⟨rfl, rfl⟩
  go_wp2_with fail
  all_goals go_returns
  all_goals exact ⟨rfl, rfl⟩
theorem lost_no (kb : Option Addr) (node t : Int) (w : World) (K : Calls Try.prog 28 #[.pointer kb, .int .i64 node] w fun e w' => e = .returned (.bool false) ∧ w = w') : Calls Try.prog 23 #[.pointer kb, .int .i64 node, .int .i64 t] w fun e w' => e = .returned (.bool false) ∧ w = w' := by
  have HK := hid K
  clear K
  go_enter Try.func23, Try.ntmps23
  go_wp2_with fail
  refine HK.out.mono ?_
  rintro _ w1 ⟨rfl, rfl⟩
  go_wp2_with fail
  all_goals go_returns
  all_goals exact ⟨rfl, rfl⟩
theorem until_yes (kb i : Nat) (n : Int) (F : Nat → Int) (w : World) (h : KP w kb n F) (hi : (i : Int) < n) (hn : n ≤ 16) : Calls Try.prog 22 #[.pointer (some ⟨kb, 0, none⟩), .int .i64 i] w fun e w' => e = .returned (.int .i64 (F i)) ∧ w = w' := by
  have HK := hid (has_any kb n i F w h)
  rw [decide_eq_true (by omega)] at HK
  have c := kp_at h i (by omega)
  have hi16 : (i : Int) < 16 := by omega
  clear h
  go_enter Try.func22, Try.ntmps22
  go_wp2_with fail
  refine HK.out.mono ?_
  rintro _ w1 ⟨rfl, rfl⟩
  go_wp2_with fail
  all_goals go_returns
  all_goals exact ⟨rfl, rfl⟩
theorem lost_yes (kb i : Nat) (n t : Int) (F : Nat → Int) (w : World) (h : KP w kb n F) (hi : (i : Int) < n) (hn : n ≤ 16) : Calls Try.prog 23 #[.pointer (some ⟨kb, 0, none⟩), .int .i64 i, .int .i64 t] w fun e w' => e = .returned (.bool (decide (F i ≤ t))) ∧ w = w' := by
  have HK := hid (has_any kb n i F w h)
  rw [decide_eq_true (by omega)] at HK
  have c := kp_at h i (by omega)
  have hi16 : (i : Int) < 16 := by omega
  clear h
  go_enter Try.func23, Try.ntmps23
  go_wp2_with fail
  refine HK.out.mono ?_
  rintro _ w1 ⟨rfl, rfl⟩
  go_wp2_with fail
  all_goals go_returns
  all_goals exact ⟨rfl, rfl⟩
theorem grant_no (kb : Option Addr) (node t : Int) (w : World) (K : Calls Try.prog 28 #[.pointer kb, .int .i64 node] w fun e w' => e = .returned (.bool false) ∧ w = w') : Calls Try.prog 20 #[.pointer kb, .int .i64 node, .int .i64 t] w fun e w' => e = .returned (.tuple #[.int .i64 0, .bool false]) ∧ w = w' := by
  have HK := hid K
  clear K
  go_enter Try.func20, Try.ntmps20
  go_wp2_with fail
  refine HK.out.mono ?_
  rintro _ w1 ⟨rfl, rfl⟩
  go_wp2_with fail
  all_goals go_returns
  all_goals exact ⟨rfl, rfl⟩
theorem grant_tick (kb : Nat) (n node t : Int) (F : Nat → Int) (w : World) (h : KP w kb n F) (ht : tickB t = false) : Calls Try.prog 20 #[.pointer (some ⟨kb, 0, none⟩), .int .i64 node, .int .i64 t] w fun e w' => e = .returned (.tuple #[.int .i64 0, .bool false]) ∧ w = w' := by
  have HK := hid (has_any kb n node F w h)
  have KT := hid (fun w => istick_any t w)
  rw [ht] at KT
  clear h ht
  generalize decide (0 ≤ node ∧ node < n) = b at *
  cases b
  all_goals
    go_enter Try.func20, Try.ntmps20
    go_wp2_with fail
    refine HK.out.mono ?_
    rintro _ w1 ⟨rfl, rfl⟩
    go_wp2_with (go_at_call 24; refine (KT.out _).mono ?_; rintro _ w1 ⟨rfl, rfl⟩)
    all_goals go_returns
    all_goals exact ⟨rfl, rfl⟩
set_option maxHeartbeats 1000000 in
theorem grant_yes (kb i : Nat) (n t : Int) (F : Nat → Int) (w : World) (h : KP w kb n F) (hi : (i : Int) < n) (hn : n ≤ 16) (htk : tickB t = true) : Calls Try.prog 20 #[.pointer (some ⟨kb, 0, none⟩), .int .i64 i, .int .i64 t] w fun e w' => e = .returned (.tuple #[.int .i64 (t + 24), .bool true]) ∧ KP w' kb n (upd F i (if F i < t + 24 then t + 24 else F i)) ∧ w.grownBy w' (some kb) := by
  have HK := hid (has_any kb n i F w h)
  rw [decide_eq_true (by omega)] at HK
  have KT := hid (fun w => istick_any t w)
  have ht : 0 ≤ t ∧ t < 1099511627776 := by simpa [tickB] using htk
  obtain ⟨ht1, ht2⟩ := ht
  rw [htk] at KT
  have c := kp_at h i (by omega)
  have f := free_of h (1 + i)
  have H := hid h
  have hi16 : (i : Int) < 16 := by omega
  clear h htk
  by_cases hm : F i < t + 24
  · rw [if_pos hm]
    generalize F i = v at *
    go_enter Try.func20, Try.ntmps20
    go_wp2_with fail
    refine HK.out.mono ?_
    rintro _ w1 ⟨rfl, rfl⟩
    go_wp2_with (go_at_call 24; refine (KT.out _).mono ?_; rintro _ w1 ⟨rfl, rfl⟩)
    go_still_tail 13, (by kernel_rfl)
    change wpList _ _ _ _ _ w.drew
    go_wp2_with fail
    all_goals go_ret2
    exact ⟨rfl, kp_set (w := w.drew) H.out i (t + 24), grown_trans (grown_below (Below.drew (Below.refl _ w)) (some kb)) (grown_set _ _ _ _)⟩
  · rw [if_neg hm]
    have HS := hid (kp_set (w := w.drew) H.out i (F i))
    generalize F i = v at *
    go_enter Try.func20, Try.ntmps20
    go_wp2_with fail
    refine HK.out.mono ?_
    rintro _ w1 ⟨rfl, rfl⟩
    go_wp2_with (go_at_call 24; refine (KT.out _).mono ?_; rintro _ w1 ⟨rfl, rfl⟩)
    go_still_tail 13, (by kernel_rfl)
    change wpList _ _ _ _ _ w.drew
    go_wp2_with fail
    all_goals go_ret2
    exact ⟨rfl, HS.out, grown_trans (grown_below (Below.drew (Below.refl _ w)) (some kb)) (grown_set _ _ _ _)⟩
def begF (k : Nat) (t : Int) : Nat → Int := fun i => if i < k then t + 24 else 0
theorem begF_succ (k : Nat) (t : Int) : upd (begF k t) k (t + 24) = begF (k + 1) t := by
  funext i
  unfold upd begF
  by_cases h : i = k
  · rw [if_pos h, if_pos (by omega)]
  · rw [if_neg h]
    by_cases h2 : i < k
    · rw [if_pos h2, if_pos (by omega)]
    · rw [if_neg h2, if_neg (by omega)]
theorem newkeeper_no (n t : Int) (w : World) (h : (n < 0 ∨ 16 < n) ∨ tickB t = false) : Calls Try.prog 18 #[.int .i64 n, .int .i64 t] w fun e w' => e = .returned (.pointer none) ∧ w = w' := by
  have KT := hid (fun w => istick_any t w)
  by_cases h1 : n < 0
  · clear h
    generalize tickB t = tk at *
    go_enter Try.func18, Try.ntmps18
    go_wp2_with (go_at_call 24; refine (KT.out _).mono ?_; rintro _ w1 ⟨rfl, rfl⟩)
    all_goals go_returns
    all_goals exact ⟨rfl, rfl⟩
  · by_cases h2 : 16 < n
    · clear h
      generalize tickB t = tk at *
      go_enter Try.func18, Try.ntmps18
      go_wp2_with (go_at_call 24; refine (KT.out _).mono ?_; rintro _ w1 ⟨rfl, rfl⟩)
      all_goals go_returns
      all_goals exact ⟨rfl, rfl⟩
    · have hf : tickB t = false := by
        rcases h with (h | h) | h
        · exact absurd h h1
        · exact absurd h h2
        · exact h
      rw [hf] at KT
      clear h hf
      go_enter Try.func18, Try.ntmps18
      go_wp2_with (go_at_call 24; refine (KT.out _).mono ?_; rintro _ w1 ⟨rfl, rfl⟩)
      all_goals go_returns
      all_goals exact ⟨rfl, rfl⟩
set_option maxHeartbeats 1000000 in
theorem newkeeper_yes (n : Nat) (t : Int) (w : World) (hn : n ≤ 16) (htk : tickB t = true) : Calls Try.prog 18 #[.int .i64 n, .int .i64 t] w fun e w' => e = .returned (.pointer (some ⟨w.heap.size, 0, none⟩)) ∧ KP w' w.heap.size n (begF n t) ∧ Below w.heap.size w w' := by
  have KT := hid (fun w => istick_any t w)
  have ht : 0 ≤ t ∧ t < 1099511627776 := by simpa [tickB] using htk
  obtain ⟨ht1, ht2⟩ := ht
  rw [htk] at KT
  clear htk
  have hn' : (n : Int) ≤ 16 := by omega
  go_enter Try.func18, Try.ntmps18
  go_wp2_with (go_at_call 24; refine (KT.out _).mono ?_; rintro _ w1 ⟨rfl, rfl⟩)
  go_loopw [22] (fun i wr => ∃ k : Nat, k ≤ n ∧ i = .int .i64 k ∧ KP wr w.heap.size n (begF k t) ∧ Below w.heap.size w wr) (fun i _ => n - (intOf i).toNat)
  case atStart => exact ⟨0, Nat.zero_le _, rfl, heap_new w _, by go_grown⟩
  case round =>
    obtain ⟨k, hk, rfl, hkp, hg⟩ := hrel
    have HK := hid hkp
    have HG := hid hg
    clear hkp hg
    by_cases hlt : k < n
    · have hlt' : (k : Int) < (n : Int) := by omega
      have c := kp_at HK.out k (by omega)
      have f := free_of HK.out (1 + k)
      have hk16 : (k : Int) < 16 := by omega
      go_wp2_with fail
      go_roundw
      case rel => exact ⟨k + 1, by omega, by go_num, by rw [← begF_succ]; exact kp_set HK.out k (t + 24), HG.out.setCell (p := ⟨w.heap.size, 1 + k, none⟩) (Nat.le_refl _) _⟩
      case measure => simp [intOf]; omega
    · obtain rfl : k = n := by omega
      go_wp2_with fail
      all_goals go_returns
      all_goals exact ⟨rfl, HK.out, HG.out⟩
end Go.Proofs.Ythbbempmppnpkaa
