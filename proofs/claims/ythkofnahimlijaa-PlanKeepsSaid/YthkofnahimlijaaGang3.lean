/- Which of some places count, each once, rising. Conditions: the pool and the places stand in memory. -/
import Derived.Test.YthkofnahimlijaaGang2
namespace Go.Proofs.Ythkofnahimlijaa
open Go Go.RowKit
/-- The cells of the grid: which places were seen. -/
def grid (S : Nat → Bool) : Array Value := #[.bool (S 0), .bool (S 1), .bool (S 2), .bool (S 3), .bool (S 4), .bool (S 5), .bool (S 6), .bool (S 7), .bool (S 8), .bool (S 9), .bool (S 10), .bool (S 11), .bool (S 12), .bool (S 13), .bool (S 14), .bool (S 15)]
theorem sixteen {i : Nat} (h : i < 16) : i = 0 ∨ i = 1 ∨ i = 2 ∨ i = 3 ∨ i = 4 ∨ i = 5 ∨ i = 6 ∨ i = 7 ∨ i = 8 ∨ i = 9 ∨ i = 10 ∨ i = 11 ∨ i = 12 ∨ i = 13 ∨ i = 14 ∨ i = 15 := by omega
theorem grid_at (S : Nat → Bool) {i : Nat} (h : i < 16) : (grid S)[i]? = some (.bool (S i)) := by
  rcases sixteen h with rfl | rfl | rfl | rfl | rfl | rfl | rfl | rfl | rfl | rfl | rfl | rfl | rfl | rfl | rfl | rfl <;> rfl
theorem grid_set (S : Nat → Bool) {i : Nat} (h : i < 16) : (grid S).setIfInBounds i (.bool true) = grid (upd S i true) := by
  rcases sixteen h with rfl | rfl | rfl | rfl | rfl | rfl | rfl | rfl | rfl | rfl | rfl | rfl | rfl | rfl | rfl | rfl <;> rfl
theorem grid_none : grid (fun _ => false) = #[.bool false, .bool false, .bool false, .bool false, .bool false, .bool false, .bool false, .bool false, .bool false, .bool false, .bool false, .bool false, .bool false, .bool false, .bool false, .bool false] := rfl
/-- The places of some that count. -/
def cntS (n : Nat) (xs : List Int) (i : Nat) : Bool := decide (i < n) && xs.contains (i : Int)
def cntL (n : Nat) (xs : List Int) (k : Nat) : List Nat := (List.range k).filter (cntS n xs)
def nums (l : List Nat) : List Value := l.map fun i => .int .i64 (i : Nat)
theorem nums_len (l : List Nat) : (nums l).length = l.length := by simp [nums]
theorem cntL_succ (n : Nat) (xs : List Int) (k : Nat) : cntL n xs (k + 1) = if cntS n xs k = true then cntL n xs k ++ [k] else cntL n xs k := by
  unfold cntL
  rw [List.range_succ, List.filter_append]
  split
  · next h => simp [h]
  · next h => simp [h]
theorem cntL_le (n : Nat) (xs : List Int) (k : Nat) : (cntL n xs k).length ≤ k := by
  unfold cntL
  have := List.length_filter_le (cntS n xs) (List.range k)
  simpa using this
theorem own_ne {w : World} {base : Nat} {e : TypeId} {size : Nat} {v : Value} {n : Nat} {xs : List Value} (h : w.ownsRow base e size v n xs) {k : Nat} (hk : k < base) : v.ownBlock ≠ some k := by
  obtain ⟨_, ⟨rfl, _⟩ | ⟨g, cap, cur, rfl, h3, _⟩⟩ := h
  · simp [Value.ownBlock]
  · simp [Value.ownBlock]
    omega
theorem own_weak {w : World} {base base' : Nat} {e : TypeId} {size : Nat} {v : Value} {n : Nat} {xs : List Value} (h : w.ownsRow base e size v n xs) (hb : base' ≤ base) : w.ownsRow base' e size v n xs := by
  obtain ⟨h1, h2 | ⟨g, cap, cur, h2, h3, h4⟩⟩ := h
  · exact ⟨h1, .inl h2⟩
  · exact ⟨h1, .inr ⟨g, cap, cur, h2, by omega, h4⟩⟩
theorem below_own {B base : Nat} {w w1 w2 : World} {e : TypeId} {size : Nat} {v : Value} {n : Nat} {xs : List Value} (h : Below B w w1) (hb : w1.grownBy w2 v.ownBlock) (ho : w1.ownsRow base e size v n xs) (hB : B ≤ base) (hz : B ≤ w1.heap.size) : Below B w w2 :=
  ⟨hb.os.trans h.os, hb.tape.trans h.tape, hb.output.trans h.output, Nat.le_trans h.size hb.size, fun k hk => (hb.block k (by omega) (fun e => own_ne ho (k := k) (by omega) e.symm)).trans (h.block k hk)⟩
def CntPost (w : World) (l : List Nat) (e : Ending) (w' : World) : Prop := ∃ v', e = .returned v' ∧ w'.ownsRow w.heap.size 3 1 v' l.length (nums l) ∧ Below w.heap.size w w'
theorem int_info : ∃ i0, Try.prog.info? 3 = some i0 ∧ i0.zero = some (.int .i64 0) ∧ i0.size = 1 ∧ i0.bytes = 8 := by
  obtain ⟨i, hi⟩ := Option.isSome_iff_exists.1 (show (Try.prog.info? 3).isSome = true by kernel_rfl)
  have h1 : (Try.prog.info? 3).map (·.zero) = some (some (.int .i64 0)) := by kernel_rfl
  have h2 : (Try.prog.info? 3).map (·.size) = some 1 := by kernel_rfl
  have h3 : (Try.prog.info? 3).map (·.bytes) = some 8 := by kernel_rfl
  rw [hi] at h1 h2 h3
  simp at h1 h2 h3
  exact ⟨i, hi, h1, h2, h3⟩
/-- What is told of a pool's has, a pool that is none included. -/
def HasK (q : Value) (n : Nat) (w : World) : Prop := ∀ i w1, Below w.heap.size w w1 → Calls Try.prog 55 #[q, .int .i64 i] w1 fun e w' => e = .returned (.bool (hasB n i)) ∧ w1 = w'
theorem hasK_any (q : Nat) (sv : Value) (n : Nat) (ps : Nat → Nat) (Ws : Nat → V4) (fs : Nat → Int → V4) (w : World) (h : PL w q sv n ps Ws fs) : HasK (.pointer (some ⟨q, 0, none⟩)) n w := fun i w1 hb => has_any q sv n ps Ws fs i w1 (h.keep hb)
theorem hasK_nil (w : World) : HasK (.pointer none) 0 w := fun i w1 _ => by
  have h := has_nil i w1
  rw [show hasB 0 i = false from decide_eq_false (by omega)]
  exact h
set_option maxHeartbeats 2000000 in
theorem counting_any (q : Value) (n : Nat) (A : Option Addr) (cap : Nat) (xs : List Int) (w : World) (hq : HasK q n w) (hn16 : n ≤ 16) (hN : Ns w A xs) (hl : xs.length ≤ 9223372036854775807) :
    Calls Try.prog 38 #[q, .slice A xs.length cap] w (CntPost w (cntL n xs 16)) := by
  have KH := hid hq
  have HN : Hid (∀ w1, Below w.heap.size w w1 → Ns w1 A xs) := hid fun w1 hb => hN.keep hb
  obtain ⟨m, hm⟩ : ∃ m, m = xs.length := ⟨_, rfl⟩
  rw [← hm] at hl ⊢
  have HM := hid hm
  have G0 := hid (heap_new w (.cells (grid fun _ => false) 121))
  have g0 := hid (show Below w.heap.size w (w.alloc (.cells (grid fun _ => false) 121)) from by go_grown)
  obtain ⟨i0, hi, hz0, hz1, hz2⟩ := int_info
  clear hN hm hq
  go_enter Try.func38, Try.ntmps38
  go_wp2_with fail
  go_loopw [12] (fun x wr => ∃ (k : Nat) (S : Nat → Bool), k ≤ m ∧ x = .int .i64 k ∧ Below w.heap.size w wr ∧ wr.heap[w.heap.size]? = some (.cells (grid S) 121 (0, 0)) ∧ (∀ i, i < 16 → (S i = true ↔ i < n ∧ ∃ j : Nat, j < k ∧ xs[j]? = some (i : Int)))) (fun x _ => m - (intOf x).toNat)
  case atStart => exact ⟨0, fun _ => false, Nat.zero_le _, rfl, g0.out, G0.out, fun i _ => by simp⟩
  case round =>
    clear G0 g0
    obtain ⟨k, S, hk, rfl, hg, hG, hS⟩ := hrel
    have HG := hid hg
    have GG := hid hG
    have HS := hid hS
    clear hg hG hS
    by_cases hlt : k < m
    · have hlt' : (k : Int) < (m : Int) := by omega
      obtain ⟨x, hx⟩ : ∃ x, xs[k]? = some x := ⟨_, List.getElem?_eq_getElem (by have := HM.out; omega)⟩
      obtain ⟨b, off, rfl, hc⟩ := (HN.out _ HG.out).at hx
      have c0 := hc k x hx
      have HX := hid hx
      clear hc hx
      have KHx := hid (KH.out x _ HG.out)
      cases hh : hasB n x with
      | false =>
        rw [hh] at KHx
        have hx01 : ¬ (0 ≤ x ∧ x < (n : Int)) := by simpa [hasB] using hh
        clear hh
        go_wp2_with (go_at_call 55; (with_reducible refine KHx.out.mono ?_); rintro _ w2 ⟨rfl, rfl⟩)
        go_roundw
        case rel =>
          refine ⟨k + 1, S, by omega, by go_num, HG.out, GG.out, fun i hi => ?_⟩
          rw [HS.out i hi]
          constructor
          · rintro ⟨h1, j, h2, h3⟩
            exact ⟨h1, j, by omega, h3⟩
          · rintro ⟨h1, j, h2, h3⟩
            refine ⟨h1, j, ?_, h3⟩
            rcases Nat.lt_or_ge j k with h | h
            · exact h
            · obtain rfl : j = k := by omega
              rw [HX.out] at h3
              cases h3
              omega
        case measure => simp [intOf]; omega
      | true =>
        rw [hh] at KHx
        have hx01 : 0 ≤ x ∧ x < (n : Int) := by simpa [hasB] using hh
        clear hh
        obtain ⟨d, rfl⟩ := Int.eq_ofNat_of_zero_le hx01.1
        have hd16 : d < 16 := by omega
        have hdn : d < n := by omega
        obtain ⟨e, he⟩ : ∃ e, d / 4 = e := ⟨_, rfl⟩
        obtain ⟨r, hr⟩ : ∃ r, d % 4 = r := ⟨_, rfl⟩
        have hqe : (d : Int) / 4 = (e : Int) := by omega
        have hre : (d : Int) % 4 = (r : Int) := by omega
        have hd0 : 0 ≤ (d : Int) := by omega
        have he4 : (e : Int) < 4 := by omega
        have hr4 : (r : Int) < 4 := by omega
        have hed := hid (show e * 4 + r = d by omega)
        have cE : wr.cell? ⟨w.heap.size, e * 4 + r, none⟩ = some (.bool (S d)) := by rw [hed.out]; exact (cell_of GG.out d).trans (grid_at S hd16)
        have fE := free_of GG.out (e * 4 + r)
        clear he hr hx01
        go_wp2_with (go_at_call 55; (with_reducible refine KHx.out.mono ?_); rintro _ w2 ⟨rfl, rfl⟩)
        go_roundw
        case rel =>
          refine ⟨k + 1, upd S d true, by omega, by go_num, HG.out.setCell (p := ⟨w.heap.size, e * 4 + r, none⟩) (Nat.le_refl _) _, ?_, fun i hi => ?_⟩
          · have h0 := heap_setCell_same wr w.heap.size (e * 4 + r) _ 121 (.bool true) GG.out
            rw [hed.out, grid_set S hd16] at h0
            rw [hed.out]
            exact h0
          · by_cases hid2 : i = d
            · subst hid2
              rw [upd_same]
              exact ⟨fun _ => ⟨hdn, k, by omega, HX.out⟩, fun _ => rfl⟩
            · rw [show upd S d true i = S i by unfold upd; rw [if_neg hid2], HS.out i hi]
              constructor
              · rintro ⟨h1, j, h2, h3⟩
                exact ⟨h1, j, by omega, h3⟩
              · rintro ⟨h1, j, h2, h3⟩
                refine ⟨h1, j, ?_, h3⟩
                rcases Nat.lt_or_ge j k with h | h
                · exact h
                · obtain rfl : j = k := by omega
                  rw [HX.out] at h3
                  simp at h3
                  omega
        case measure => simp [intOf]; omega
    · obtain rfl : k = m := by omega
      have HS2 := hid (show ∀ i, i < 16 → S i = cntS n xs i from fun i hi => by
        rw [Bool.eq_iff_iff, HS.out i hi]
        unfold cntS
        simp only [Bool.and_eq_true, decide_eq_true_eq, List.contains_iff_mem]
        constructor
        · rintro ⟨h1, j, _, h3⟩
          exact ⟨h1, List.mem_of_getElem? h3⟩
        · rintro ⟨h1, h2⟩
          obtain ⟨j, hj⟩ := List.getElem?_of_mem h2
          exact ⟨h1, j, by have := (List.getElem?_eq_some_iff.1 hj).1; have := HM.out; omega, hj⟩)
      have hgz : w.heap.size + 1 ≤ wr.heap.size := by have := lt_of GG.out; omega
      clear HS HN KH
      go_wp2_with fail
      go_loopw [8, 26] (fun v x wr => ∃ i : Nat, i ≤ 16 ∧ x = .int .i64 i ∧ wr.ownsRow (w.heap.size + 1) 3 1 v (cntL n xs i).length (nums (cntL n xs i)) ∧ Below w.heap.size w wr ∧ wr.heap[w.heap.size]? = some (.cells (grid S) 121 (0, 0)) ∧ w.heap.size + 1 ≤ wr.heap.size) (fun _ x _ => 16 - (intOf x).toNat)
      case atStart => exact ⟨0, by omega, rfl, World.ownsRow_nil _ _ _ _, HG.out, GG.out, hgz⟩
      case round =>
        clear HG GG hgz
        obtain ⟨i, hi16, rfl, hO, hg, hG, hz⟩ := hrel
        have HO := hid hO
        have HG := hid hg
        have GG := hid hG
        clear hO hg hG
        by_cases hlt2 : i < 16
        · have hlt3 : (i : Int) < 16 := by omega
          obtain ⟨e, he⟩ : ∃ e, i / 4 = e := ⟨_, rfl⟩
          obtain ⟨r, hr⟩ : ∃ r, i % 4 = r := ⟨_, rfl⟩
          have hqe : (i : Int) / 4 = (e : Int) := by omega
          have hre : (i : Int) % 4 = (r : Int) := by omega
          have hi0 : 0 ≤ (i : Int) := by omega
          have he4 : (e : Int) < 4 := by omega
          have hr4 : (r : Int) < 4 := by omega
          have hed := hid (show e * 4 + r = i by omega)
          have cE : wr.cell? ⟨w.heap.size, e * 4 + r, none⟩ = some (.bool (cntS n xs i)) := by rw [hed.out, ← HS2.out i hlt2]; exact (cell_of GG.out i).trans (grid_at S hlt2)
          have hll := cntL_le n xs i
          have HLs := hid (cntL_succ n xs i)
          clear he hr
          cases hc : cntS n xs i with
          | false =>
            rw [hc] at cE HLs
            have HL2 := hid (show cntL n xs (i + 1) = cntL n xs i from HLs.out)
            clear hc
            go_wp2_with fail
            go_roundw
            case rel => exact ⟨i + 1, by omega, by go_num, by rw [HL2.out]; exact HO.out, HG.out, GG.out, hz⟩
            case measure => simp [intOf]; omega
          | true =>
            rw [hc] at cE HLs
            have HL2 := hid (show cntL n xs (i + 1) = cntL n xs i ++ [i] from HLs.out)
            have GA := hid (heapA (o := .cells #[.int .i64 (i : Nat)] 3) GG.out)
            have OA := hid (HO.out.alloc (.cells #[.int .i64 (i : Nat)] 3))
            have NA := hid (World.news_of_block (heap_new wr (.cells #[.int .i64 (i : Nat)] 3)))
            have gA := hid (HG.out.alloc HG.out.size (.cells #[.int .i64 (i : Nat)] 3))
            clear hc
            go_wp2_with (at_builtin; refine wpList_append_own _ rfl _ _ 31 rfl (w.heap.size + 1) 3 i0 _ 1 8 Try.underlying31 hi hz0 hz1 hz2 rfl (by decide) _ _ _ rfl OA.out ⟨wr.heap.size, 0, none⟩ 1 1 [.int .i64 (i : Nat)] rfl rfl NA.out (fun u hu => by simp at hu; rw [hu]; rfl) (by unfold maxLen; omega) (by omega) (by simp; omega) ?_; rintro v' w' ho hgr hv; have O2 := hid ho; have R2 := hid hgr; clear ho hgr hv)
            go_roundw
            case rel =>
              refine ⟨i + 1, by omega, by go_num, ?_, ?_, ?_, ?_⟩
              · rw [HL2.out]
                have := O2.out
                simpa [nums] using this
              · exact below_own gA.out R2.out OA.out (Nat.le_succ _) (by simp; omega)
              · exact gb_keep R2.out GA.out (own_ne OA.out (Nat.lt_succ_self _))
              · have := R2.out.size
                simp at this
                omega
            case measure => simp [intOf]; omega
        · obtain rfl : i = 16 := by omega
          go_wp2_with fail
          go_returns
          exact ⟨_, rfl, own_weak HO.out (Nat.le_succ _), HG.out⟩
end Go.Proofs.Ythkofnahimlijaa
