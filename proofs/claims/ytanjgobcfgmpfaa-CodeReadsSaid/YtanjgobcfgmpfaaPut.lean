/- code.fresh, putUint, Uint, called at any bytes and number: what the call returns reads as what was there and the number's bytes. Conditions: the bytes stand in memory, no longer than 2^40. -/
import Derived.Test.YtanjgobcfgmpfaaBase
namespace Go.Proofs.Ytanjgobcfgmpfaa
open Go Go.RowKit
theorem add_off (b off j : Nat) : (⟨b, off, none⟩ : Addr).add j = ⟨b, off + j, none⟩ := by
  unfold Addr.add
  split <;> simp_all
theorem fresh_any (A : Option Addr) (cap r : Nat) (bs : List UInt8) (w : World) (hb : Bts w A bs) (hlen : bs.length + r ≤ 1099511627776) :
    Calls Try.prog 35 #[.slice A bs.length cap, .int .i64 r] w fun e w' => ∃ v, e = .returned v ∧ Own w' w.heap.size v bs ∧ Below w.heap.size w w' := by
  have hmk := make_bytes bs.length (bs.length + r) (by omega) (by omega)
  have hw1 : ((bs.length + r : Nat) : Int) = (bs.length : Int) + (r : Int) := by omega
  rw [hw1] at hmk
  have hlen' : (bs.length : Int) + (r : Int) ≤ 1099511627776 := by omega
  have hcur : (w.alloc (.cells (madeCells #[.int .u8 0] (bs.length + r)) 5)).heap[w.heap.size]? = some (.cells (madeCells #[.int .u8 0] (bs.length + r)).toList.toArray 5 (0, 0)) := by simpa using heap_new w (.cells (madeCells #[.int .u8 0] (bs.length + r)) 5)
  have hb1 := hb.keep (show Below w.heap.size w (w.alloc (.cells (madeCells #[.int .u8 0] (bs.length + r)) 5)) from by go_grown)
  have g1 := hid (show Below w.heap.size w (w.alloc (.cells (madeCells #[.int .u8 0] (bs.length + r)) 5)) from by go_grown)
  have hsz : ((Try.prog.info? 5).map (·.size)) = some 1 := by kernel_rfl
  have HB1 := hid hb1
  clear hb hb1
  go_enter Try.func35, Try.ntmps35
  go_wp2_with (with_reducible refine wpList_copy_splice rfl (.tmp 13) (.tmp 14) 22 22 rfl 5 Try.underlying22 hsz (some ⟨w.heap.size, 0, none⟩) A bs.length (bs.length + r) bs.length cap rfl rfl w.heap.size 0 (madeCells #[.int .u8 0] (bs.length + r)).toList 5 hcur (bs.map bv) ?c1 ?c2 ?c3 ?c4 w.heap.size w g1.out (Nat.le_refl _) ?_)
  case c1 =>
    show (bs.map bv).length = min bs.length bs.length
    simp
  case c2 =>
    intro h0
    rcases HB1.out with rfl | ⟨b, off, rfl, _, hc⟩
    · simp at h0
    · refine ⟨⟨b, off, none⟩, rfl, fun j a hj => ?_⟩
      rw [add_off]
      exact hc j a hj
  case c3 => simp [size_madeCells]
  case c4 =>
    intro u hu
    first
      | (obtain ⟨x, _, rfl⟩ := List.mem_map.1 hu; rfl)
      | rfl
  · intro w' hh hbel
    have hO : Own w' w.heap.size (.slice (some ⟨w.heap.size, 0, none⟩) bs.length (bs.length + r)) bs := by
      refine ⟨by simp, .inr ⟨w.heap.size, bs.length + r, _, rfl, Nat.le_refl _, hh.out, by omega, by unfold maxLen; omega, ?_, ?_⟩⟩
      · simp [splice, size_madeCells]
      · simp [splice]
    have HO := hid hO
    have HG := hid hbel
    clear hO hh hbel
    go_wp2
    all_goals go_returns
    all_goals exact ⟨_, rfl, HO.out, HG.out⟩
/-- The bytes of a number: seven bits a byte, the least first. -/
def encU (n : Nat) : List UInt8 := if n < 128 then [UInt8.ofNat n] else UInt8.ofNat (n % 128 + 128) :: encU (n / 128)
termination_by n
decreasing_by omega
theorem encU_small {n : Nat} (h : n < 128) : encU n = [UInt8.ofNat n] := by rw [encU, if_pos h]
theorem encU_big {n : Nat} (h : ¬ n < 128) : encU n = UInt8.ofNat (n % 128 + 128) :: encU (n / 128) := by rw [encU, if_neg h]
theorem encU_len (k : Nat) : ∀ n, n < 128 ^ (k + 1) → (encU n).length ≤ k + 1 := by
  induction k with
  | zero =>
    intro n h
    rw [encU_small (by simpa using h)]
    simp
  | succ k ih =>
    intro n h
    by_cases hs : n < 128
    · rw [encU_small hs]
      simp
    · rw [encU_big hs]
      have := ih (n / 128) (by rw [Nat.pow_succ] at h; omega)
      simp
      omega
theorem encU_ten {n : Nat} (h : n < 18446744073709551616) : (encU n).length ≤ 10 := encU_len 9 n (by
  have : (128 : Nat) ^ 10 = 1180591620717411303424 := by decide
  omega)
theorem encU_pos (n : Nat) : 0 < (encU n).length := by
  rw [encU]
  split <;> simp
theorem or128_fin : ∀ a : Fin 256, bits .or .u8 (a.val : Int) 128 = ((a.val % 128 + 128 : Nat) : Int) := by decide +kernel
theorem or128 (k : Nat) : bits .or .u8 ((k : Int) % 256) 128 = ((k % 128 + 128 : Nat) : Int) := by
  have h := or128_fin ⟨k % 256, Nat.mod_lt _ (by decide)⟩
  have e : ((k % 256 : Nat) : Int) = (k : Int) % 256 := rfl
  have e2 : k % 256 % 128 = k % 128 := by omega
  simp only [e, e2] at h
  exact h
set_option maxHeartbeats 1000000 in
theorem put_any (B n : Nat) (v : Value) (bs : List UInt8) (w : World) (hn : n < 18446744073709551616) (ho : Own w B v bs) (hB : B ≤ w.heap.size) (hlen : bs.length ≤ 1099511627776) :
    Calls Try.prog 34 #[v, .int .u64 n] w fun e w' => ∃ v', e = .returned v' ∧ Own w' B v' (bs ++ encU n) ∧ Below B w w' := by
  obtain ⟨i0, hi, hz0, hz1, hz2⟩ := info_parts Try.info5
  have HO := hid ho
  clear ho
  go_enter Try.func34, Try.ntmps34
  go_wp2_with fail
  go_loopw [0, 1] (fun v m wr => ∃ (k : Nat) (xs : List UInt8), m = .int .u64 k ∧ k < 18446744073709551616 ∧ xs ++ encU k = bs ++ encU n ∧ Own wr B v xs ∧ Below B w wr) (fun _ m _ => (intOf m).toNat)
  case atStart => exact ⟨n, bs, rfl, hn, rfl, HO.out, Below.refl _ _⟩
  case round =>
    obtain ⟨k, xs, rfl, hk, hx, hown, hg⟩ := hrel
    have hxl : xs.length ≤ 1099511627786 := by
      have h1 := congrArg List.length hx
      have h2 := encU_ten hn
      simp only [List.length_append] at h1
      omega
    have HG := hid hg
    have HX := hid hx
    have hown' : wr.ownsRow B 5 1 _ xs.length (xs.map bv) := hown
    clear hg hown hx
    have hk1 : (k : Int) < 18446744073709551616 := by omega
    by_cases hs : k < 128
    · have hs1 : (k : Int) < 128 := by omega
      have hs2 : ¬ (128 : Int) ≤ (k : Int) := by omega
      go_wp2_with (at_builtin; refine wpList_append_own _ rfl _ _ 22 rfl B 5 i0 (.int .u8 0) 1 1 Try.underlying22 hi hz0 hz1 hz2 rfl (by decide) _ _ _ rfl (hown'.alloc _) ⟨wr.heap.size, 0, none⟩ 1 1 [bv (UInt8.ofNat k)] rfl rfl ?c1 ?c2 ?c3 ?c4 ?c5 ?_)
      case c1 =>
        intro j u hj
        match j, hj with
        | 0, hj => simp at hj; subst hj; simp [bv]; try omega
      case c2 => first | rfl | (intro u hu; obtain rfl := List.mem_singleton.1 hu; rfl)
      case c3 => unfold maxLen; omega
      case c4 => omega
      case c5 => have := HG.out.size; simp; omega
      · intro v' w1 hown2 hgrow _
        have hb := own_base hown'
        have G1 := hid (Below.grown (HG.out.alloc (Nat.le_trans hB HG.out.size) _) hgrow (by have := HG.out.size; simp; omega) hb)
        have O1 := hid (show Own w1 B v' (bs ++ encU n) from by rw [← HX.out, encU_small hs]; simpa [Own] using hown2)
        clear hown2 hgrow hown' hb
        go_wp2_with fail
        all_goals go_returns
        all_goals exact ⟨_, rfl, O1.out, G1.out⟩
    · have hs1 : (128 : Int) ≤ (k : Int) := by omega
      go_wp2_with (at_builtin; refine wpList_append_own _ rfl _ _ 22 rfl B 5 i0 (.int .u8 0) 1 1 Try.underlying22 hi hz0 hz1 hz2 rfl (by decide) _ _ _ rfl (hown'.alloc _) ⟨wr.heap.size, 0, none⟩ 1 1 [bv (UInt8.ofNat (k % 128 + 128))] rfl rfl ?d1 ?d2 ?d3 ?d4 ?d5 ?_)
      case d1 =>
        intro j u hj
        match j, hj with
        | 0, hj => simp at hj; subst hj; simp [bv]; rw [or128 k, show ((k : Int) % 128 + 128) % 256 = ((k % 128 + 128 : Nat) : Int) by omega]; simp [Addr.add]
      case d2 => first | rfl | (intro u hu; obtain rfl := List.mem_singleton.1 hu; rfl)
      case d3 => unfold maxLen; omega
      case d4 => omega
      case d5 => have := HG.out.size; simp; omega
      · intro v' w1 hown2 hgrow _
        have hb := own_base hown'
        have G1 := hid (Below.grown (HG.out.alloc (Nat.le_trans hB HG.out.size) _) hgrow (by have := HG.out.size; simp; omega) hb)
        have O1 := hid (show Own w1 B v' (xs ++ [UInt8.ofNat (k % 128 + 128)]) from by simpa [Own] using hown2)
        have hx2 := hid (show (xs ++ [UInt8.ofNat (k % 128 + 128)]) ++ encU (k / 128) = bs ++ encU n from by rw [← HX.out, encU_big hs]; simp)
        clear hown2 hgrow hown' hb
        go_wp2_with fail
        go_roundw
        case rel => exact ⟨k / 128, _, by first | rfl | (congr 1; omega), by omega, hx2.out, O1.out, G1.out⟩
        case measure => simp [intOf]; omega
end Go.Proofs.Ytanjgobcfgmpfaa
