/- The document's reader R: Fail, Uint, Int, End at any reader. Conditions: the bytes stand in memory below the reader. -/
import Derived.Test.YtanjgobcfgmpfaaBackMath
import Derived.Deep.DeepCutAuto
namespace Go.Proofs.Ytanjgobcfgmpfaa
open Go Go.RowKit
/-- The bytes at A, where there are any, stand below block B. -/
def Low (A : Option Addr) (bs : List UInt8) (B : Nat) : Prop := bs = [] ∨ ∀ b o, A = some ⟨b, o, none⟩ → b < B
/-- The document's reader at block rb: these bytes, below block B, and this error. -/
def RR (w : World) (B rb : Nat) (bs : List UInt8) (e : Int) : Prop := ∃ A cap, w.heap[rb]? = some (.cells #[.slice A bs.length cap, .int .i64 e] 43 (0, 0)) ∧ bs.length ≤ cap ∧ Bts w A bs ∧ Low A bs B ∧ B ≤ rb
theorem bts_low {w w' : World} {A : Option Addr} {bs : List UInt8} {B : Nat} (h : Bts w A bs) (hA : Low A bs B) (hz : w.heap.size ≤ w'.heap.size) (hb : ∀ k, k < B → k < w.heap.size → w'.heap[k]? = w.heap[k]?) : Bts w' A bs := by
  rcases hA with e | hA
  · exact .inl e
  rcases h with e | ⟨b, o, rfl, hlt, hc⟩
  · exact .inl e
  · refine .inr ⟨b, o, rfl, Nat.lt_of_lt_of_le hlt hz, fun j x hx => ?_⟩
    rw [World.cell?_of_block (w := w) (hb b (hA b o rfl) hlt)]
    exact hc j x hx
theorem RR.set {w : World} {B rb : Nat} {bs' : List UInt8} {A' : Option Addr} {cap' : Nat} {e' : Int} (hB : B ≤ rb) (hb : Bts w A' bs') (hc : bs'.length ≤ cap') (hA : Low A' bs' B)
    {w' : World} (hw : w'.heap[rb]? = some (.cells #[.slice A' bs'.length cap', .int .i64 e'] 43 (0, 0))) (hg : w.grownBy w' (some rb)) : RR w' B rb bs' e' :=
  ⟨A', cap', hw, hc, bts_low hb hA hg.size (fun k hk hl => hg.block k hl (fun h => by cases h; omega)), hA, hB⟩
theorem RR.grown {w w' : World} {B rb k : Nat} {bs : List UInt8} {e : Int} (h : RR w B rb bs e) (hg : w.grownBy w' (some k)) (hk : k ≠ rb) (hB : B ≤ k) : RR w' B rb bs e := by
  obtain ⟨A, cap, hR, hc, hb, hA, hBr⟩ := h
  exact ⟨A, cap, by rw [hg.block rb (lt_of hR) (fun e => hk (Option.some.inj e).symm), hR], hc, bts_low hb hA hg.size (fun j hj hl => hg.block j hl (fun h => by cases h; omega)), hA, hBr⟩
theorem RR.keep {w w' : World} {B rb : Nat} {bs : List UInt8} {e : Int} (h : RR w B rb bs e) (hb : Below w.heap.size w w') : RR w' B rb bs e := by
  obtain ⟨A, cap, hR, hc, hbt, hA, hBr⟩ := h
  exact ⟨A, cap, keep0 hb hR, hc, hbt.keep hb, hA, hBr⟩
theorem rfail_ok (B rb : Nat) (bs : List UInt8) (c : Int) (w : World) (h : RR w B rb bs 0) (hc : c ≠ 0) : Calls Try.prog 29 #[.pointer (some ⟨rb, 0, none⟩), .int .i64 c] w fun en w' => en = .returned (.tuple #[]) ∧ RR w' B rb [] c ∧ w.grownBy w' (some rb) := by
  obtain ⟨A, cap, hR, hcap, hb, hA, hB⟩ := h
  obtain ⟨c0, c1⟩ := two hR
  obtain ⟨f0, f1⟩ := twoF hR
  have HR := hid hR
  have n1 : (c != 0) = true := by simp [hc]
  clear hR hb hcap hA
  go_enter Try.func29, Try.ntmps29
  go_wp2_with fail
  all_goals go_returns
  all_goals exact ⟨rfl, ⟨none, 0, two_rev _ _ HR.out, Nat.le_refl _, .inl rfl, .inl rfl, hB⟩, grown_trans (grown_set _ _ _ _) (grown_set _ _ _ _)⟩
theorem rfail_not (B rb : Nat) (bs : List UInt8) (e c : Int) (w : World) (h : RR w B rb bs e) (hc : e ≠ 0 ∨ c = 0) : Calls Try.prog 29 #[.pointer (some ⟨rb, 0, none⟩), .int .i64 c] w fun en w' => en = .returned (.tuple #[]) ∧ w = w' := by
  obtain ⟨A, cap, hR, hcap, hb, hA, hB⟩ := h
  obtain ⟨c0, c1⟩ := two hR
  clear hR hb hcap hA hB
  by_cases h0 : e = 0
  · obtain rfl : c = 0 := by
      rcases hc with h | h
      · exact absurd h0 h
      · exact h
    subst h0
    clear hc
    go_enter Try.func29, Try.ntmps29
    go_wp2
    all_goals go_returns
    all_goals exact ⟨rfl, rfl⟩
  · have n1 : (e == 0) = false := by simp [h0]
    clear hc h0
    go_enter Try.func29, Try.ntmps29
    go_wp2
    all_goals go_returns
    all_goals exact ⟨rfl, rfl⟩
set_option maxRecDepth 100000 in
set_option maxHeartbeats 2000000 in
theorem refuint_ok (B rb : Nat) (bs : List UInt8) (w : World) (h : RR w B rb bs 0) (hlen : bs.length ≤ 549755813888) :
    Calls Try.prog 20 #[.pointer (some ⟨rb, 0, none⟩)] w fun en w' => en = .returned (.int .u64 ((uR bs 0 0).1 : Nat)) ∧ RR w' B rb (uR bs 0 0).2.1 (uR bs 0 0).2.2 ∧ w.grownBy w' (some rb) := by
  have HS := hid h
  obtain ⟨A, cap, hR, hcap, hb, hA, hBr⟩ := h
  obtain ⟨c0, c1⟩ := two hR
  obtain ⟨f0, f1⟩ := twoF hR
  have HR := hid hR
  have HB := hid hb
  have HA := hid hA
  clear hR hb hA
  have hl1 : (bs.length : Int) ≤ 549755813888 := by omega
  obtain ⟨r1, r2, r3, hr⟩ : ∃ a b c, uR bs 0 0 = (a, b, c) := ⟨_, _, _, rfl⟩
  rw [hr]
  have KF := hid (fun c hc => rfail_ok B rb bs c w HS.out hc)
  go_enter Try.func20, Try.ntmps20
  go_wp2_with fail
  go_loopw [3, 4, 5] (fun m q i wr => ∃ (k n p : Nat), k ≤ bs.length ∧ k ≤ 9 ∧ i = .int .i64 k ∧ m = .int .u64 n ∧ q = .int .u64 p ∧ Hid (p = 128 ^ k) ∧ n < p ∧ Hid (uR (bs.drop k) k n = (r1, r2, r3)) ∧ wr = w) (fun _ _ i _ => 10 - (intOf i).toNat)
  case atStart => exact ⟨0, 0, 1, by omega, by omega, rfl, rfl, rfl, hid (by decide), by decide, hid hr, by first | trivial | rfl⟩
  case round =>
    obtain ⟨k, n, p, hk, hk9, rfl, rfl, rfl, hp, hn, hU, rfl⟩ := hrel
    have p1 : p ≤ 9223372036854775808 := by rw [hp.out]; exact pow_ten k hk9
    have p1' : (p : Int) ≤ 9223372036854775808 := by omega
    by_cases hlt : k < bs.length
    · rcases HB.out with rfl | ⟨b, off, rfl, hbl, hc⟩
      · simp at hlt
      · have hx := hc k bs[k] (List.getElem?_eq_getElem hlt)
        have hd : bs.drop k = bs[k] :: bs.drop (k + 1) := List.drop_eq_getElem_cons hlt
        have hU2 := hU.out
        rw [hd, uR_cons] at hU2
        have hc0 : bs[k].toNat < 256 := UInt8.toNat_lt _
        unfold bv at hx
        generalize bs[k].toNat = c at *
        have hlt' : (k : Int) < (bs.length : Int) := by omega
        have hge' : ¬ (bs.length : Int) ≤ (k : Int) := by omega
        have hc1 : (c : Int) < 256 := by omega
        by_cases hbad : (k = 9 ∧ 1 < c) ∨ (0 < k ∧ c = 0)
        · rw [if_pos hbad] at hU2
          simp only [Prod.mk.injEq] at hU2
          obtain ⟨rfl, rfl, rfl⟩ := hU2
          have hw : (k = 9 ∧ 1 < c) ∨ (¬ k = 9 ∧ 0 < k ∧ c = 0) ∨ (k = 9 ∧ ¬ 1 < c ∧ c = 0) := by omega
          clear hbad hd hc hU
          rcases hw with ⟨rfl, h1⟩ | ⟨h1, h2, rfl⟩ | ⟨rfl, h1, rfl⟩
          · have h1' : (1 : Int) < (c : Int) := by omega
            go_wp2_with fail
            refine (KF.out 11 (by decide)).mono ?_
            rintro _ w2 ⟨rfl, hS2, hg2⟩
            have S2 := hid hS2
            have G2 := hid hg2
            clear hS2 hg2
            go_wp2_with fail
            all_goals go_returns
            all_goals exact ⟨rfl, S2.out, G2.out⟩
          · have h1' : ((k : Int) == 9) = false := by simp; omega
            have h2' : (0 : Int) < (k : Int) := by omega
            go_wp2_with fail
            refine (KF.out 11 (by decide)).mono ?_
            rintro _ w2 ⟨rfl, hS2, hg2⟩
            have S2 := hid hS2
            have G2 := hid hg2
            clear hS2 hg2
            go_wp2_with fail
            all_goals go_returns
            all_goals exact ⟨rfl, S2.out, G2.out⟩
          · go_wp2_with fail
            refine (KF.out 11 (by decide)).mono ?_
            rintro _ w2 ⟨rfl, hS2, hg2⟩
            have S2 := hid hS2
            have G2 := hid hg2
            clear hS2 hg2
            go_wp2_with fail
            all_goals go_returns
            all_goals exact ⟨rfl, S2.out, G2.out⟩
        · rw [if_neg hbad] at hU2
          have hm : c % 128 * 128 ^ k < 18446744073709551616 := by
            have p1 := pow_ten k hk9
            by_cases h9 : k = 9
            · subst h9
              have e : (128 : Nat) ^ 9 = 9223372036854775808 := by decide
              rw [e]
              have : c ≤ 1 := by omega
              have : c % 128 ≤ 1 := by omega
              omega
            · have p2 : 128 ^ k ≤ 128 ^ 8 := Nat.pow_le_pow_right (by decide) (by omega)
              have e : (128 : Nat) ^ 8 = 72057594037927936 := by decide
              rw [e] at p2
              have h3 : c % 128 * 128 ^ k ≤ 127 * 128 ^ k := Nat.mul_le_mul_right _ (by omega)
              omega
          have hm2 : n + c % 128 * 128 ^ k < 18446744073709551616 ∧ (k < 9 → n + c % 128 * 128 ^ k < 128 ^ (k + 1)) := by
            have hn' : n < 128 ^ k := by rw [← hp.out]; exact hn
            refine ⟨?_, fun hk8 => ?_⟩
            · by_cases h9 : k = 9
              · subst h9
                have e : (128 : Nat) ^ 9 = 9223372036854775808 := by decide
                rw [e] at hn' ⊢
                have : c ≤ 1 := by omega
                have : c % 128 ≤ 1 := by omega
                omega
              · have p2 : 128 ^ k ≤ 128 ^ 8 := Nat.pow_le_pow_right (by decide) (by omega)
                have e : (128 : Nat) ^ 8 = 72057594037927936 := by decide
                rw [e] at p2
                have h3 : c % 128 * 128 ^ k ≤ 127 * 128 ^ k := Nat.mul_le_mul_right _ (by omega)
                omega
            · rw [Nat.pow_succ]
              have h3 : c % 128 * 128 ^ k ≤ 127 * 128 ^ k := Nat.mul_le_mul_right _ (by omega)
              omega
          have hpk := hp.out
          rw [← hpk] at hU2 hm hm2
          obtain ⟨u, hu⟩ : ∃ u, u = c % 128 * p := ⟨_, rfl⟩
          rw [← hu] at hU2 hm hm2
          have e1 : (p : Int) * ((c : Int) % 128) = (u : Int) := by rw [hu, Nat.mul_comm]; push_cast; rfl
          have hs1 : ((k : Int) == 9) = false ∨ (k = 9 ∧ ¬ (1 : Int) < (c : Int)) := by
            by_cases h9 : k = 9
            · exact .inr ⟨h9, by omega⟩
            · exact .inl (by simp; omega)
          have hs2 : (((c : Int) == 0) = true ∧ ¬ (0 : Int) < (k : Int)) ∨ ((c : Int) == 0) = false := by
            by_cases h0 : c = 0
            · exact .inl ⟨by simp; omega, by omega⟩
            · exact .inr (by simp; omega)
          have hk8 : c < 128 ∨ k < 9 := by omega
          have hm1' : (u : Int) < 18446744073709551616 := by omega
          have hm2' : (n : Int) + (u : Int) < 18446744073709551616 := by omega
          have hpp := hid (show k < 9 → p * 128 = 128 ^ (k + 1) ∧ p * 128 ≤ 9223372036854775808 from fun h => by
            have := pow_ten (k + 1) (by omega)
            rw [hpk, ← Nat.pow_succ]
            exact ⟨rfl, this⟩)
          have HM2 := hid hm2
          clear hbad hd hc hU hpk hp hu hm hm2
          go_upto_region 9 with fail
          go_cut [43] (fun v wx => v = .bool false ∧ wx = wr)
          case first =>
            clear hm1' hm2'
            rcases hs1 with h1 | ⟨rfl, h1⟩ <;> rcases hs2 with ⟨h2, h3⟩ | h2
            all_goals try (exfalso; omega)
            all_goals
              go_wp2_with fail
              all_goals go_meet
              all_goals exact ⟨by first | rfl | exact congrArg Value.bool (decide_eq_false (by omega)), by first | trivial | rfl⟩
          case rest =>
            obtain ⟨rfl, rfl⟩ := hcut
            clear hs1 hs2
            by_cases h128 : c < 128
            · rw [if_pos h128] at hU2
              simp only [Prod.mk.injEq] at hU2
              obtain ⟨rfl, rfl, rfl⟩ := hU2
              have h128' : (c : Int) < 128 := by omega
              have HC := hid (show ∀ v, (wc.setCell ⟨rb, 0, none⟩ v).heap[rb]? = some (.cells #[v, .int .i64 0] 43 (0, 0)) from fun v => by simpa using heap_setCell_same wc rb 0 _ 43 v HR.out)
              have hlen2 := hid (show (bs.drop (k + 1)).length = bs.length - (k + 1) from List.length_drop)
              have hbB := (HA.out.resolve_left (by rintro rfl; simp at hlt)) b off rfl
              clear HR hpp
              go_upto_region 12 with fail
              clear hm1' hm2'
              go_wp2_with fail
              all_goals go_returns
              all_goals
                refine ⟨ret_u64 (by omega), ?_, grown_set _ _ _ _⟩
                first
                  | exact RR.set hBr (bts_drop (k + 1) HB.out) (cap' := cap - (k + 1)) (by rw [hlen2.out]; omega) (.inr fun _ _ h => by cases h; exact hbB) (by rw [hlen2.out]; exact HC.out _) (grown_set _ _ _ _)
                  | exact RR.set (A' := some ⟨b, off, none⟩) hBr (.inl (List.drop_eq_nil_of_le (by omega))) (cap' := 0) (by rw [hlen2.out]; omega) (.inr fun _ _ h => by cases h; exact hbB) (by rw [hlen2.out]; exact HC.out _) (grown_set _ _ _ _)
            · rw [if_neg h128] at hU2
              have h128' : ¬ (c : Int) < 128 := by omega
              have hk9' : k < 9 := by omega
              obtain ⟨hp1, hp2⟩ := hpp.out hk9'
              have HP := hid hp1
              have HU2 := hid hU2
              have hnn := hid (show n + u < p * 128 by rw [hp1]; exact HM2.out.2 hk9')
              have hp2' : (p : Int) * 128 ≤ 9223372036854775808 := by omega
              clear hU2 hp1 hpp
              go_upto_region 12 with fail
              clear hm1' hm2'
              go_wp2_with fail
              go_roundw
              case rel => exact ⟨k + 1, n + u, p * 128, by omega, by omega, by go_num, by go_num, by go_num, HP, hnn.out, HU2, by first | trivial | rfl⟩
              case measure => simp [intOf]; omega
    · obtain rfl : k = bs.length := by omega
      have hU2 := hU.out
      rw [List.drop_length] at hU2
      simp only [uR, Prod.mk.injEq] at hU2
      obtain ⟨rfl, rfl, rfl⟩ := hU2
      have hlt' : (bs.length : Int) ≤ (bs.length : Int) := Int.le_refl _
      go_wp2_with fail
      refine (KF.out 10 (by decide)).mono ?_
      rintro _ w2 ⟨rfl, hS2, hg2⟩
      have S2 := hid hS2
      have G2 := hid hg2
      clear hS2 hg2
      go_wp2_with fail
      all_goals go_returns
      all_goals exact ⟨rfl, S2.out, G2.out⟩
end Go.Proofs.Ytanjgobcfgmpfaa
