/- share.Dominant, called at any amounts: the greatest share and its place. Condition: none. -/
import Derived.Test.YtafcajojepigiaaMath
import Derived.Test.YtafcajojepigiaaPart
namespace Go.Proofs.Ytafcajojepigiaa
open Go Go.RowKit
def domF (H G : Nat → Int) : Nat → Nat
  | 0 => 0
  | k + 1 => if 0 < cmpS (mx0 (H k)) (mx0 (G k)) (mx0 (H (domF H G k))) (mx0 (G (domF H G k))) then k else domF H G k
theorem domF_lt (H G : Nat → Int) (k : Nat) : k ≤ 4 → domF H G k < 4 := by
  induction k with
  | zero => intro _; simp [domF]
  | succ k ih =>
    intro hk
    unfold domF
    split
    · omega
    · exact ih (by omega)
theorem vec_at (H : Nat → Int) (i : Nat) (hi : i < 4) : (#[.int .i64 (H 0), .int .i64 (H 1), .int .i64 (H 2), .int .i64 (H 3)] : Array Value)[i]? = some (.int .i64 (H i)) := by
  rcases (by omega : i = 0 ∨ i = 1 ∨ i = 2 ∨ i = 3) with rfl | rfl | rfl | rfl <;> rfl
theorem mx0_bd (n : Int) (h : n ≤ 9223372036854775807) : mx0 n ≤ 9223372036854775807 := by unfold mx0; split <;> omega
set_option maxHeartbeats 2000000 in
theorem dom_any (H G : Nat → Int) (w : World) (hH : ∀ i, i < 4 → H i ≤ 9223372036854775807) (hG : ∀ i, i < 4 → G i ≤ 9223372036854775807)
    (KC : Hid (∀ a b c d W, a ≤ 9223372036854775807 → b ≤ 9223372036854775807 → c ≤ 9223372036854775807 → d ≤ 9223372036854775807 → Calls Try.prog 11 #[.agg #[.int .i64 a, .int .i64 b], .agg #[.int .i64 c, .int .i64 d]] W fun e w' => e = .returned (.int .i64 (cmpS a b c d)) ∧ Below W.heap.size W w')) :
    Calls Try.prog 13 #[.agg #[.int .i64 (H 0), .int .i64 (H 1), .int .i64 (H 2), .int .i64 (H 3)], .agg #[.int .i64 (G 0), .int .i64 (G 1), .int .i64 (G 2), .int .i64 (G 3)]] w fun e w' => e = .returned (.tuple #[.agg #[.int .i64 (mx0 (H (domF H G 4))), .int .i64 (mx0 (G (domF H G 4)))], .int .i64 (domF H G 4)]) ∧ Below w.heap.size w w' := by
  have hH' := hid hH
  have hG' := hid hG
  clear hH hG
  have kp : ∀ (i : Nat) (W : World), i < 4 → W.heap[w.heap.size]? = some (.cells #[.int .i64 (H 0), .int .i64 (H 1), .int .i64 (H 2), .int .i64 (H 3)] 28 (0, 0)) → W.heap[w.heap.size + 1]? = some (.cells #[.int .i64 (G 0), .int .i64 (G 1), .int .i64 (G 2), .int .i64 (G 3)] 28 (0, 0)) →
      Calls Try.prog 28 #[.int .i64 i, .pointer (some ⟨w.heap.size, 0, none⟩), .pointer (some ⟨w.heap.size + 1, 0, none⟩)] W fun e w' => e = .returned (.agg #[.int .i64 (mx0 (H i)), .int .i64 (mx0 (G i))]) ∧ Below W.heap.size W w' := fun i W hi h1 h2 =>
    part_any i _ _ (H i) (G i) W hi ((cell_of h1 i).trans (vec_at H i hi)) ((cell_of h2 i).trans (vec_at G i hi))
  have KP := hid kp
  clear kp
  go_enter Try.func13, Try.ntmps13
  go_wp2_with fail
  go_loopw [7, 10] (fun b i wr => ∃ k : Nat, k ≤ 4 ∧ i = .int .i64 k ∧ b = .int .i64 (domF H G k) ∧ Below w.heap.size w wr ∧ wr.heap[w.heap.size]? = some (.cells #[.int .i64 (H 0), .int .i64 (H 1), .int .i64 (H 2), .int .i64 (H 3)] 28 (0, 0)) ∧ wr.heap[w.heap.size + 1]? = some (.cells #[.int .i64 (G 0), .int .i64 (G 1), .int .i64 (G 2), .int .i64 (G 3)] 28 (0, 0)) ∧ wr.heap[w.heap.size + 1 + 1]? = some (.cells #[.int .i64 0, .int .i64 0] 23 (0, 0))) (fun _ i _ => 4 - (intOf i).toNat)
  case atStart =>
    refine ⟨0, by omega, rfl, rfl, by go_grown, ?_, ?_, ?_⟩
    · rw [Below.heap_alloc _ _ _ (by simp; omega), Below.heap_alloc _ _ _ (by simp)]
      exact heap_new w _
    · rw [Below.heap_alloc _ _ _ (by simp)]
      simpa using heap_new (w.alloc (.cells #[.int .i64 (H 0), .int .i64 (H 1), .int .i64 (H 2), .int .i64 (H 3)] 28)) (.cells #[.int .i64 (G 0), .int .i64 (G 1), .int .i64 (G 2), .int .i64 (G 3)] 28)
    · simpa using heap_new ((w.alloc (.cells #[.int .i64 (H 0), .int .i64 (H 1), .int .i64 (H 2), .int .i64 (H 3)] 28)).alloc (.cells #[.int .i64 (G 0), .int .i64 (G 1), .int .i64 (G 2), .int .i64 (G 3)] 28)) (.cells #[.int .i64 0, .int .i64 0] 23)
  case round =>
    obtain ⟨k, hk, rfl, rfl, hg, h1, h2, h3⟩ := hrel
    have HG := hid hg
    have H1 := hid h1
    have H2 := hid h2
    have H3 := hid h3
    clear hg h1 h2 h3
    have hd := domF_lt H G k hk
    have hds := hid (show domF H G (k + 1) = if 0 < cmpS (mx0 (H k)) (mx0 (G k)) (mx0 (H (domF H G k))) (mx0 (G (domF H G k))) then k else domF H G k from rfl)
    by_cases h4 : k < 4
    · go_wp2_with fail
      refine (KP.out k _ h4 H1.out H2.out).mono ?_
      rintro e w2 ⟨rfl, hb⟩
      have H1a := hid (keep0 hb H1.out)
      have H2a := hid (keep0 hb H2.out)
      have H3a := hid (keep0 hb H3.out)
      have HGa := hid (below_step HG.out HG.out.size hb)
      clear hb
      go_wp2_with fail
      refine (KP.out (domF H G k) _ hd H1a.out H2a.out).mono ?_
      rintro e w3 ⟨rfl, hb⟩
      have H1b := hid (keep0 hb H1a.out)
      have H2b := hid (keep0 hb H2a.out)
      have H3b := hid (keep0 hb H3a.out)
      have HGb := hid (below_step HGa.out HGa.out.size hb)
      clear hb
      go_wp2_with fail
      refine (KC.out _ _ _ _ _ (mx0_bd _ (hH'.out _ h4)) (mx0_bd _ (hG'.out _ h4)) (mx0_bd _ (hH'.out _ hd)) (mx0_bd _ (hG'.out _ hd))).mono ?_
      rintro e w4 ⟨rfl, hb⟩
      have H1c := hid (keep0 hb H1b.out)
      have H2c := hid (keep0 hb H2b.out)
      have H3c := hid (keep0 hb H3b.out)
      have HGc := hid (below_step HGb.out HGb.out.size hb)
      clear hb
      generalize cmpS (mx0 (H k)) (mx0 (G k)) (mx0 (H (domF H G k))) (mx0 (G (domF H G k))) = c at hds
      by_cases hc : 0 < c
      · have hd' := hid (show domF H G (k + 1) = k by rw [hds.out, if_pos hc])
        go_wp2_with fail
        go_roundw
        case rel => exact ⟨k + 1, by omega, by go_num, by rw [hd'.out], HGc.out, H1c.out, H2c.out, H3c.out⟩
        case measure => simp [intOf]; omega
      · have hd' := hid (show domF H G (k + 1) = domF H G k by rw [hds.out, if_neg hc])
        go_wp2_with fail
        go_roundw
        case rel => exact ⟨k + 1, by omega, by go_num, by rw [hd'.out], HGc.out, H1c.out, H2c.out, H3c.out⟩
        case measure => simp [intOf]; omega
    · obtain rfl : k = 4 := by omega
      go_wp2_with fail
      refine (KP.out (domF H G 4) _ hd H1.out H2.out).mono ?_
      rintro e w2 ⟨rfl, hb⟩
      have h3 := keep0 hb H3.out
      have HGa := hid (below_step HG.out HG.out.size hb)
      obtain ⟨c30, c31⟩ := two h3
      obtain ⟨f30, f31⟩ := twoF h3
      have H3a := hid h3
      clear hb h3
      go_wp2_with fail
      refine bodyPost_ret (v := .tuple #[.agg #[.int .i64 (mx0 (H (domF H G 4))), .int .i64 (mx0 (G (domF H G 4)))], .int .i64 (domF H G 4)]) (results_row_tmp Try.results13 _ _ (w.heap.size + 1 + 1) 23 _ (0, 0) _ _ rfl rfl (two_set _ _ H3a.out) Try.underlying23 rfl (by kernel_rfl)) rfl ⟨rfl, two_below _ _ HGa.out (by omega)⟩
end Go.Proofs.Ytafcajojepigiaa
