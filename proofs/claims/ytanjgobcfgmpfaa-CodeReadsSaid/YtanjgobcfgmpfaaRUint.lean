/- The reader's Uint, called at any reader: the number, what is left, the error. Condition: the bytes stand in memory. -/
import Derived.Test.YtanjgobcfgmpfaaReader
import Derived.Deep.RegionWith
import Derived.Deep.DeepCutAuto
namespace Go.Proofs.Ytanjgobcfgmpfaa
open Go Go.RowKit
/-- Of the bytes from place i on, n being what the bytes ahead tell: the number, what is left, the error. -/
def uR : List UInt8 → Nat → Nat → Nat × List UInt8 × Int
  | [], _, _ => (0, [], 10)
  | c :: t, i, n => if (i = 9 ∧ 1 < c.toNat) ∨ (0 < i ∧ c.toNat = 0) then (0, [], 11) else if c.toNat < 128 then (n + c.toNat % 128 * 128 ^ i, t, 0) else uR t (i + 1) (n + c.toNat % 128 * 128 ^ i)
theorem uR_cons (c : UInt8) (t : List UInt8) (i n : Nat) : uR (c :: t) i n = if (i = 9 ∧ 1 < c.toNat) ∨ (0 < i ∧ c.toNat = 0) then (0, [], 11) else if c.toNat < 128 then (n + c.toNat % 128 * 128 ^ i, t, 0) else uR t (i + 1) (n + c.toNat % 128 * 128 ^ i) := rfl
def takeU (bs : List UInt8) (e : Int) : Nat × List UInt8 × Int := if e = 0 then uR bs 0 0 else (0, bs, e)
theorem shl_pow (a i : Nat) : a <<< (7 * i) = a * 128 ^ i := by
  rw [Nat.shiftLeft_eq, Nat.pow_mul]
theorem or_shift (c n k : Nat) (hn : n < 128 ^ k) (hp9 : 128 ^ k ≤ 9223372036854775808) (hm : c % 128 * 128 ^ k < 18446744073709551616) : bits .or .u64 (n : Int) (IntKind.u64.wrap ((c : Int) % 128 * 2 ^ (7 * k))) = ((n + c % 128 * 128 ^ k : Nat) : Int) := by
  have e1 : (2 : Nat) ^ (7 * k) = 128 ^ k := by rw [Nat.pow_mul]
  have e2 : (c : Int) % 128 * 2 ^ (7 * k) = ((c % 128 * 128 ^ k : Nat) : Int) := by
    rw [← e1]
    simp
  have e3 : IntKind.u64.wrap ((c % 128 * 128 ^ k : Nat) : Int) = ((c % 128 * 128 ^ k : Nat) : Int) := by
    generalize c % 128 * 128 ^ k = m at *
    rw [IntKind.wrap_u64]
    omega
  rw [e2, e3]
  by_cases h0 : c % 128 = 0
  · rw [h0, Nat.zero_mul]
    rw [u64_or_nat n 0 (by omega) (by decide)]
    simp
  · have hp : 128 ^ k ≤ c % 128 * 128 ^ k := Nat.le_mul_of_pos_left _ (by omega)
    rw [u64_or_nat n _ (by omega) hm, Nat.or_comm, nat_join (7 * k) _ n (by rw [e1]; exact Nat.mul_mod_left _ _) (by rw [e1]; exact hn)]
    omega
theorem bts_drop {w : World} {b off : Nat} {bs : List UInt8} (m : Nat) (h : Bts w (some ⟨b, off, none⟩) bs) : Bts w (some ⟨b, off + m, none⟩) (bs.drop m) := by
  rcases h with rfl | ⟨b', off', he, hlt, hc⟩
  · left
    simp
  · obtain ⟨rfl, rfl⟩ : b = b' ∧ off = off' := by simpa using he
    refine .inr ⟨b, off + m, rfl, hlt, fun j x hx => ?_⟩
    rw [Nat.add_assoc]
    exact hc (m + j) x (by rw [List.getElem?_drop] at hx; exact hx)
theorem pow_ten (i : Nat) (h : i ≤ 9) : 128 ^ i ≤ 9223372036854775808 := by
  have : 128 ^ i ≤ 128 ^ 9 := Nat.pow_le_pow_right (by decide) h
  have e : 128 ^ 9 = 9223372036854775808 := by decide
  omega
set_option maxRecDepth 10000 in
set_option maxHeartbeats 2000000 in
theorem ruint_ok (rb : Nat) (bs : List UInt8) (w : World) (h : RS w rb bs 0) (hlen : bs.length ≤ 549755813888) :
    Calls Try.prog 19 #[.pointer (some ⟨rb, 0, none⟩)] w fun en w' => en = .returned (.int .u64 ((uR bs 0 0).1 : Nat)) ∧ RS w' rb (uR bs 0 0).2.1 (uR bs 0 0).2.2 ∧ w.grownBy w' (some rb) := by
  have HS := hid h
  obtain ⟨A, cap, hR, ⟨hcap, htag⟩, hb⟩ := h
  have HTG := hid htag
  clear htag
  obtain ⟨c0, c1⟩ := two hR
  obtain ⟨f0, f1⟩ := twoF hR
  have HR := hid hR
  have HB := hid hb
  clear hR hb
  have hl1 : (bs.length : Int) ≤ 549755813888 := by omega
  obtain ⟨r1, r2, r3, hr⟩ : ∃ a b c, uR bs 0 0 = (a, b, c) := ⟨_, _, _, rfl⟩
  rw [hr]
  have KF := hid (fun c hc => fail_ok rb bs c w HS.out hc)
  go_enter Try.func19, Try.ntmps19
  go_wp2_with fail
  go_loopw [3, 4] (fun m i wr => ∃ (k n : Nat), k ≤ bs.length ∧ k ≤ 9 ∧ i = .int .i64 k ∧ m = .int .u64 n ∧ n < 128 ^ k ∧ Hid (uR (bs.drop k) k n = (r1, r2, r3)) ∧ wr = w) (fun _ i _ => 10 - (intOf i).toNat)
  case atStart => exact ⟨0, 0, by omega, by omega, rfl, rfl, by decide, hid hr, by first | trivial | rfl⟩
  case round =>
    obtain ⟨k, n, hk, hk9, rfl, rfl, hn, hU, rfl⟩ := hrel
    by_cases hlt : k < bs.length
    · rcases HB.out with rfl | ⟨b, off, rfl, hbl, hc⟩
      · simp at hlt
      · have hx := hc k bs[k] (List.getElem?_eq_getElem hlt)
        have hd : bs.drop k = bs[k] :: bs.drop (k + 1) := List.drop_eq_getElem_cons hlt
        have hU2 := hU.out
        rw [hd, uR_cons] at hU2
        have hc0 : bs[k].toNat < 256 := UInt8.toNat_lt _
        unfold bv at hx
        generalize bs[k].toNat = c at *
        have hlt' : (k : Int) < (bs.length : Int) := by omega
        have hge' : ¬ (bs.length : Int) ≤ (k : Int) := by omega
        have hc1 : (c : Int) < 256 := by omega
        by_cases hbad : (k = 9 ∧ 1 < c) ∨ (0 < k ∧ c = 0)
        · rw [if_pos hbad] at hU2
          simp only [Prod.mk.injEq] at hU2
          obtain ⟨rfl, rfl, rfl⟩ := hU2
          have hw : (k = 9 ∧ 1 < c) ∨ (¬ k = 9 ∧ 0 < k ∧ c = 0) ∨ (k = 9 ∧ ¬ 1 < c ∧ c = 0) := by omega
          clear hbad hd hc hU
          rcases hw with ⟨rfl, h1⟩ | ⟨h1, h2, rfl⟩ | ⟨rfl, h1, rfl⟩
          · have h1' : (1 : Int) < (c : Int) := by omega
            go_wp2_with fail
            refine (KF.out 11 (by decide)).mono ?_
            rintro _ w2 ⟨rfl, hS2, hg2⟩
            have S2 := hid hS2
            have G2 := hid hg2
            clear hS2 hg2
            go_wp2_with fail
            all_goals go_returns
            all_goals exact ⟨rfl, S2.out, G2.out⟩
          · have h1' : ((k : Int) == 9) = false := by simp; omega
            have h2' : (0 : Int) < (k : Int) := by omega
            go_wp2_with fail
            refine (KF.out 11 (by decide)).mono ?_
            rintro _ w2 ⟨rfl, hS2, hg2⟩
            have S2 := hid hS2
            have G2 := hid hg2
            clear hS2 hg2
            go_wp2_with fail
            all_goals go_returns
            all_goals exact ⟨rfl, S2.out, G2.out⟩
          · go_wp2_with fail
            refine (KF.out 11 (by decide)).mono ?_
            rintro _ w2 ⟨rfl, hS2, hg2⟩
            have S2 := hid hS2
            have G2 := hid hg2
            clear hS2 hg2
            go_wp2_with fail
            all_goals go_returns
            all_goals exact ⟨rfl, S2.out, G2.out⟩
        · rw [if_neg hbad] at hU2
          have p1 := pow_ten k hk9
          have hm : c % 128 * 128 ^ k < 18446744073709551616 := by
            by_cases h9 : k = 9
            · subst h9
              have e : (128 : Nat) ^ 9 = 9223372036854775808 := by decide
              rw [e]
              have : c ≤ 1 := by omega
              have : c % 128 ≤ 1 := by omega
              omega
            · have p2 : 128 ^ k ≤ 128 ^ 8 := Nat.pow_le_pow_right (by decide) (by omega)
              have e : (128 : Nat) ^ 8 = 72057594037927936 := by decide
              rw [e] at p2
              have h3 : c % 128 * 128 ^ k ≤ 127 * 128 ^ k := Nat.mul_le_mul_right _ (by omega)
              omega
          have hs1 : ((k : Int) == 9) = false ∨ (k = 9 ∧ ¬ (1 : Int) < (c : Int)) := by
            by_cases h9 : k = 9
            · exact .inr ⟨h9, by omega⟩
            · exact .inl (by simp; omega)
          have hs2 : ¬ (0 : Int) < (k : Int) ∨ ((c : Int) == 0) = false := by
            by_cases h0 : 0 < k
            · exact .inr (by simp; omega)
            · exact .inl (by omega)
          have hk8 : c < 128 ∨ k < 9 := by omega
          have hval := hid (or_shift c n k hn p1 hm)
          clear hbad hd hc hU hm
          go_upto_region 10 with fail
          go_cut [44] (fun v wx => v = .bool false ∧ wx = wr)
          case first =>
            rcases hs1 with h1 | ⟨rfl, h1⟩ <;> rcases hs2 with h2 | h2
            all_goals
              go_wp2_with fail
              all_goals go_meet
              all_goals exact ⟨by first | rfl | rw [h2] | (exfalso; omega), by first | trivial | rfl⟩
          case rest =>
            obtain ⟨rfl, rfl⟩ := hcut
            clear hs1 hs2
            by_cases h128 : c < 128
            · rw [if_pos h128] at hU2
              simp only [Prod.mk.injEq] at hU2
              obtain ⟨rfl, rfl, rfl⟩ := hU2
              have h128' : (c : Int) < 128 := by omega
              have HC := hid (show ∀ v, (wc.setCell ⟨rb, 0, none⟩ v).heap[rb]? = some (.cells #[v, .int .i64 0] 61 (0, 0)) from fun v => by simpa using heap_setCell_same wc rb 0 _ 61 v HR.out)
              have HD := hid (show ∀ v, Bts (wc.setCell ⟨rb, 0, none⟩ v) (some ⟨b, off, none⟩) bs from fun v => bts_grown HR.out HB.out (grown_set wc rb 0 v))
              have HG5 := hid (show ∀ v, Tag (wc.setCell ⟨rb, 0, none⟩ v) (some ⟨b, off, none⟩) from fun v => tag_grown HR.out HTG.out (grown_set wc rb 0 v))
              have hlen2 := hid (show (bs.drop (k + 1)).length = bs.length - (k + 1) from List.length_drop)
              clear HB HR
              go_wp2_with fail
              all_goals go_returns
              all_goals
                refine ⟨ret_u64 hval.out, ?_, grown_set _ _ _ _⟩
                first
                  | exact ⟨some ⟨b, off + (k + 1), none⟩, cap - (k + 1), by rw [hlen2.out]; exact HC.out _, ⟨by rw [hlen2.out]; omega, tag_off (HG5.out _)⟩, bts_drop (k + 1) (HD.out _)⟩
                  | exact ⟨some ⟨b, off, none⟩, 0, by rw [hlen2.out]; exact HC.out _, ⟨by rw [hlen2.out]; omega, HG5.out _⟩, by rw [List.drop_eq_nil_of_le (by omega)]; exact .inl rfl⟩
            · rw [if_neg h128] at hU2
              have h128' : ¬ (c : Int) < 128 := by omega
              have hn2 : n + c % 128 * 128 ^ k < 128 ^ (k + 1) := by
                rw [Nat.pow_succ]
                have h3 : c % 128 * 128 ^ k ≤ 127 * 128 ^ k := Nat.mul_le_mul_right _ (by omega)
                omega
              have HU2 := hid hU2
              clear hU2
              go_wp2_with fail
              go_roundw
              case rel => exact ⟨k + 1, n + c % 128 * 128 ^ k, by omega, by omega, by go_num, by rw [hval.out], hn2, HU2, by first | trivial | rfl⟩
              case measure => simp [intOf]; omega
    · obtain rfl : k = bs.length := by omega
      have hU2 := hU.out
      rw [List.drop_length] at hU2
      simp only [uR, Prod.mk.injEq] at hU2
      obtain ⟨rfl, rfl, rfl⟩ := hU2
      have hlt' : (bs.length : Int) ≤ (bs.length : Int) := Int.le_refl _
      go_wp2_with fail
      refine (KF.out 10 (by decide)).mono ?_
      rintro _ w2 ⟨rfl, hS2, hg2⟩
      have S2 := hid hS2
      have G2 := hid hg2
      clear hS2 hg2
      go_wp2_with fail
      all_goals go_returns
      all_goals exact ⟨rfl, S2.out, G2.out⟩
end Go.Proofs.Ytanjgobcfgmpfaa
