/- The reference's Uint, Int, Text, Ints, called at any value: what the call returns reads as the bytes of the value. Conditions: a text has at most 2^37 bytes, a row at most 10^6 numbers. -/
import Derived.Test.YtanjgobcfgmpfaaRInts
namespace Go.Proofs.Ytanjgobcfgmpfaa
open Go Go.RowKit
theorem own_lit (w : World) (B : Nat) (x : UInt8) (hB : B ≤ w.heap.size) : Own (w.alloc (.cells #[bv x] 5)) B (.slice (some ⟨w.heap.size, 0, none⟩) 1 1) [x] :=
  World.ownsRow_lit w #[bv x] 1 hB (by decide) rfl
set_option maxHeartbeats 1000000 in
theorem refU_any (n : Nat) : ∀ (w : World), n < 18446744073709551616 → Calls Try.prog 11 #[.int .u64 n] w fun e w' => ∃ v, e = .returned v ∧ Own w' w.heap.size v (encU n) ∧ Below w.heap.size w w' := by
  induction n using Nat.strongRecOn with
  | _ n ih =>
    intro w hn
    have hn' : (n : Int) < 18446744073709551616 := by omega
    by_cases hs : n < 128
    · have hs' : (n : Int) < 128 := by omega
      have O := hid (own_lit w w.heap.size (UInt8.ofNat n) (Nat.le_refl _))
      have e : bv (UInt8.ofNat n) = .int .u8 n := by simp [bv]; omega
      have G := hid (show Below w.heap.size w (w.alloc (.cells #[.int .u8 n] 5)) from by go_grown)
      rw [e] at O
      rw [encU_small hs]
      clear ih e
      go_enter Try.func11, Try.ntmps11
      go_wp2_with fail
      all_goals go_returns
      all_goals exact ⟨_, rfl, O.out, G.out⟩
    · have hs' : ¬ (n : Int) < 128 := by omega
      obtain ⟨i0, hi, hz0, hz1, hz2⟩ := info_parts Try.info5
      have K : Hid (∀ w, Calls Try.prog 11 #[.int .u64 ((n : Int) / 128)] w fun e w' => ∃ v, e = .returned v ∧ Own w' w.heap.size v (encU (n / 128)) ∧ Below w.heap.size w w') := hid fun w => by
        have k := ih (n / 128) (by omega) w (by omega)
        rw [show ((n / 128 : Nat) : Int) = (n : Int) / 128 by omega] at k
        exact k
      have G := hid (show Below w.heap.size w (w.alloc (.cells #[.int .u8 (128 + (n : Int) % 128)] 5)) from by go_grown)
      have e : bv (UInt8.ofNat (n % 128 + 128)) = .int .u8 (128 + (n : Int) % 128) := by simp [bv]; omega
      have O := hid (own_lit w w.heap.size (UInt8.ofNat (n % 128 + 128)) (Nat.le_refl _))
      have hl := encU_ten (n := n / 128) (by omega)
      have hp := encU_pos (n / 128)
      rw [e] at O
      rw [encU_big hs]
      clear ih e
      generalize encU (n / 128) = E at *
      generalize UInt8.ofNat (n % 128 + 128) = x at *
      go_enter Try.func11, Try.ntmps11
      go_wp2_with fail
      refine (K.out _).mono ?_
      rintro _ w1 ⟨v, rfl, ho, hbb⟩
      obtain ⟨A1, cap1, rfl, hb1, _⟩ := ho.is
      have O1 : w1.ownsRow w.heap.size 5 1 (.slice (some ⟨w.heap.size, 0, none⟩) 1 1) [x].length ([x].map bv) := O.out.keep hbb
      have G1 := hid (below_step G.out G.out.size hbb)
      rcases hb1 with rfl | ⟨b1, off1, rfl, hbl, hc⟩
      · simp at hp
      · have HC := hid (show ∀ (j : Nat) u, (E.map bv)[j]? = some u → w1.cell? ((⟨b1, off1, none⟩ : Addr).add j) = some u from fun j u hj => by
          rw [List.getElem?_map] at hj
          obtain ⟨y, hy, rfl⟩ := Option.map_eq_some_iff.1 hj
          rw [add_off]
          exact hc j y hy)
        clear hc ho hbb K O
        go_wp2_with (at_builtin; refine wpList_append_own _ rfl _ _ 22 rfl w.heap.size 5 i0 (.int .u8 0) 1 1 Try.underlying22 hi hz0 hz1 hz2 rfl (by decide) _ _ _ rfl O1 ⟨b1, off1, none⟩ E.length cap1 (E.map bv) rfl (by simp) HC.out ?c2 ?c3 ?c4 ?c5 ?_)
        case c2 =>
          intro u hu
          obtain ⟨y, _, rfl⟩ := List.mem_map.1 hu
          rfl
        case c3 => show 1 + E.length ≤ maxLen; unfold maxLen; omega
        case c4 => show (1 + E.length) * 1 ≤ 140737488355328; omega
        case c5 => exact G1.out.size
        · intro v' w2 hown2 hgrow _
          have hb := own_base O1
          have G2 := hid (Below.grown G1.out hgrow G1.out.size hb)
          have O2 := hid (show Own w2 w.heap.size v' (x :: E) from by simpa [Own, Nat.add_comm] using hown2)
          clear hown2 hgrow O1 hb
          go_wp2_with fail
          all_goals go_returns
          all_goals exact ⟨_, rfl, O2.out, G2.out⟩
theorem refI_any (z : Int) (w : World) (hz : -9223372036854775808 ≤ z ∧ z ≤ 9223372036854775807) : Calls Try.prog 13 #[.int .i64 z] w fun e w' => ∃ v, e = .returned v ∧ Own w' w.heap.size v (encU (foldF z)) ∧ Below w.heap.size w w' := by
  have K := hid (refU_any (foldF z) w (foldF_lt hz))
  obtain ⟨z0, z1⟩ := hz
  by_cases h : z < 0
  · have e : ((foldF z : Nat) : Int) = 2 * (-(z + 1)) + 1 := by rw [foldF, if_pos h]; omega
    rw [e] at K
    generalize encU (foldF z) = E at *
    clear e
    go_enter Try.func13, Try.ntmps13
    go_wp2_with fail
    refine K.out.mono ?_
    rintro _ w1 ⟨v, rfl, ho, hbb⟩
    have O := hid ho
    have G := hid hbb
    clear ho hbb K
    go_wp2_with fail
    all_goals go_returns
    all_goals exact ⟨_, rfl, O.out, G.out⟩
  · have e : ((foldF z : Nat) : Int) = 2 * z := by rw [foldF, if_neg h]; omega
    rw [e] at K
    generalize encU (foldF z) = E at *
    clear e
    go_enter Try.func13, Try.ntmps13
    go_wp2_with fail
    refine K.out.mono ?_
    rintro _ w1 ⟨v, rfl, ho, hbb⟩
    have O := hid ho
    have G := hid hbb
    clear ho hbb K
    go_wp2_with fail
    all_goals go_returns
    all_goals exact ⟨_, rfl, O.out, G.out⟩
theorem refT_any (s : ByteArray) (w : World) (hs : s.size ≤ 137438953472) : Calls Try.prog 15 #[.string s] w fun e w' => ∃ v, e = .returned v ∧ Own w' w.heap.size v (encU s.size ++ s.data.toList) ∧ Below w.heap.size w w' := by
  have K := hid (refU_any s.size w (by omega))
  have h1 : (s.size : Int) ≤ 137438953472 := by omega
  have h2 := encU_ten (n := s.size) (by omega)
  obtain ⟨i0, hi, hz0, hz1, hz2⟩ := info_parts Try.info5
  generalize encU s.size = E at *
  go_enter Try.func15, Try.ntmps15
  go_wp2_with fail
  refine K.out.mono ?_
  rintro _ w1 ⟨v, rfl, ho, hbb⟩
  have hown : w1.ownsRow w.heap.size 5 1 v E.length (E.map bv) := ho
  have G1 := hid hbb
  clear ho hbb K
  go_wp2_with (at_builtin; refine Lib.wpList_append_own_string _ rfl _ _ 22 9 rfl w.heap.size 5 i0 Try.underlying22 Try.underlying9 hi hz0 hz1 hz2 _ _ _ rfl hown s rfl ?c1 ?c2 ?c3 ?_)
  case c1 => unfold maxLen; omega
  case c2 => omega
  case c3 => exact G1.out.size
  · intro v3 w3 hown2 hgrow _
    have hb := own_base hown
    have G3 := hid (Below.grown G1.out hgrow G1.out.size hb)
    have O3 := hid (show Own w3 w.heap.size v3 (E ++ s.data.toList) from by
      have e : (E ++ s.data.toList).map bv = E.map bv ++ Lib.strCells s := by
        rw [List.map_append]
        rfl
      have e2 : (E ++ s.data.toList).length = E.length + s.size := by simp
      unfold Own
      rw [e, e2]
      first | exact hown2 | simpa using hown2)
    clear hown2 hgrow hown hb
    go_wp2_with fail
    all_goals go_returns
    all_goals exact ⟨_, rfl, O3.out, G3.out⟩
end Go.Proofs.Ytanjgobcfgmpfaa
