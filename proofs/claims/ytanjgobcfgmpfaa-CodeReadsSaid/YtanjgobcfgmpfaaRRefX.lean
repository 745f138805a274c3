/- The document's reader R: Text at any reader. Conditions: the bytes stand in memory below the reader. -/
import Derived.Test.YtanjgobcfgmpfaaRRefT
namespace Go.Proofs.Ytanjgobcfgmpfaa
open Go Go.RowKit
theorem bts_map {w : World} {A : Option Addr} {l : List UInt8} (n : Nat) (h : Bts w A l) : Bts w (Option.map (fun x => x.add n) A) (l.drop n) := by
  rcases h with rfl | ⟨b, off, rfl, hlt, hc⟩
  · exact .inl (by simp)
  · rw [show Option.map (fun x => x.add n) (some (⟨b, off, none⟩ : Addr)) = some ⟨b, off + n, none⟩ from by simp [Addr.add]]
    exact bts_drop n (.inr ⟨b, off, rfl, hlt, hc⟩)
theorem add_off' (b off j : Nat) : (⟨b, off, none⟩ : Addr).add j = ⟨b, off + j, none⟩ := by
  unfold Addr.add
  split <;> simp_all
theorem low_map {w : World} {A : Option Addr} {B : Nat} {l : List UInt8} (n : Nat) (hb : Bts w A l) (h : Low A l B) : Low (Option.map (fun x => x.add n) A) (l.drop n) B := by
  rcases hb with rfl | ⟨b', off, rfl, hlt, hc⟩
  · exact .inl (by simp)
  · rcases h with rfl | h
    · exact .inl (by simp)
    · refine .inr fun b o e => ?_
      have e2 : some (⟨b', off + n, none⟩ : Addr) = some ⟨b, o, none⟩ := by rw [← e, Option.map_some, add_off']
      cases e2
      exact h _ off rfl
set_option maxRecDepth 100000 in
set_option maxHeartbeats 2000000 in
theorem reftext_any (B rb : Nat) (bs : List UInt8) (e most : Int) (w : World) (h : RR w B rb bs e) (hlen : bs.length ≤ 549755813888) (hm : -9223372036854775808 ≤ most ∧ most ≤ 9223372036854775807) :
    Calls Try.prog 24 #[.pointer (some ⟨rb, 0, none⟩), .int .i64 most] w fun en w' => en = .returned (.string ⟨(takeT (mostF most) bs e).1.toArray⟩) ∧ RR w' B rb (takeT (mostF most) bs e).2.1 (takeT (mostF most) bs e).2.2 ∧ w.grownBy w' (some rb) := by
  have K := hid (refuint_any B rb bs e w h hlen)
  have herr : (takeU bs e).2.2 ≠ 0 → (takeU bs e).1 = 0 := takeU_err
  have hll := takeU_len bs e
  have hlt := takeU_lt bs e
  have KF := hid (fun l c w (h : RR w B rb l 0) hc => rfail_ok B rb l c w h hc)
  unfold takeT takeL
  clear h
  generalize takeU bs e = r at *
  obtain ⟨n, l, e1⟩ := r
  simp only at herr K hll hlt ⊢
  obtain ⟨m0, m1⟩ := hm
  have hn' : (n : Int) < 18446744073709551616 := by omega
  have hl' : (l.length : Int) ≤ 549755813888 := by omega
  obtain ⟨m, hmm⟩ : ∃ m, m = mostF most := ⟨_, rfl⟩
  rw [← hmm]
  have hM : (most < 0 ∧ m = 0) ∨ (0 ≤ most ∧ most = (m : Int)) := by
    rw [hmm]
    unfold mostF
    split
    · exact .inl ⟨by assumption, rfl⟩
    · exact .inr ⟨by omega, by omega⟩
  clear hmm
  by_cases he : e1 = 0
  · subst he
    by_cases h1 : m < n
    · rw [if_pos h1]
      simp only [List.length_nil, Nat.lt_irrefl, if_false, if_true]
      rcases hM with ⟨hM, rfl⟩ | ⟨hM, rfl⟩
      · have h2 : (0 : Int) < (n : Int) := by omega
        clear herr h1 hlt hll
        go_enter Try.func24, Try.ntmps24
        go_wp2_with fail
        refine K.out.mono ?_
        rintro _ w1 ⟨rfl, hs, hg⟩
        have KF1 := hid (KF.out l 11 w1 hs (by decide))
        have G1 := hid hg
        obtain ⟨A1, cap1, hR1, _, _, _, _⟩ := hs
        obtain ⟨d0, d1⟩ := two hR1
        clear hR1 hg
        go_upto_region 2 with fail
        clear m0 m1 hn' hl'
        go_wp2_with fail
        refine KF1.out.mono ?_
        rintro _ w2 ⟨rfl, hs, hg⟩
        have S2 := hid hs
        have G2 := hid (grown_trans G1.out hg)
        obtain ⟨A2, cap2, hR2, _, _, _, _⟩ := hs
        obtain ⟨x0, x1⟩ := two hR2
        clear hR2 hg d0 d1
        go_wp2_with fail
        all_goals go_returns
        all_goals exact ⟨rfl, S2.out, G2.out⟩
      · have h2 : (m : Int) < (n : Int) := by omega
        clear herr h1 hlt hll
        go_enter Try.func24, Try.ntmps24
        go_wp2_with fail
        refine K.out.mono ?_
        rintro _ w1 ⟨rfl, hs, hg⟩
        have KF1 := hid (KF.out l 11 w1 hs (by decide))
        have G1 := hid hg
        obtain ⟨A1, cap1, hR1, _, _, _, _⟩ := hs
        obtain ⟨d0, d1⟩ := two hR1
        clear hR1 hg
        go_upto_region 2 with fail
        clear m0 hn' hl'
        go_wp2_with fail
        refine KF1.out.mono ?_
        rintro _ w2 ⟨rfl, hs, hg⟩
        have S2 := hid hs
        have G2 := hid (grown_trans G1.out hg)
        obtain ⟨A2, cap2, hR2, _, _, _, _⟩ := hs
        obtain ⟨x0, x1⟩ := two hR2
        clear hR2 hg d0 d1
        go_wp2_with fail
        all_goals go_returns
        all_goals exact ⟨rfl, S2.out, G2.out⟩
    · rw [if_neg h1]
      have h2 : ¬ (m : Int) < (n : Int) := by omega
      by_cases h3 : l.length < n
      · rw [if_pos h3]
        have h3' : (l.length : Int) < (n : Int) := by omega
        rcases hM with ⟨hM, rfl⟩ | ⟨hM, rfl⟩
        · exfalso
          omega
        · clear herr h1 hlt hll h3
          go_enter Try.func24, Try.ntmps24
          go_wp2_with fail
          refine K.out.mono ?_
          rintro _ w1 ⟨rfl, hs, hg⟩
          have KF1 := hid (KF.out l 10 w1 hs (by decide))
          have G1 := hid hg
          obtain ⟨A1, cap1, hR1, _, _, _, _⟩ := hs
          obtain ⟨d0, d1⟩ := two hR1
          clear hR1 hg
          go_upto_region 2 with fail
          clear m0 hn'
          go_wp2_with fail
          refine KF1.out.mono ?_
          rintro _ w2 ⟨rfl, hs, hg⟩
          have S2 := hid hs
          have G2 := hid (grown_trans G1.out hg)
          obtain ⟨A2, cap2, hR2, _, _, _, _⟩ := hs
          obtain ⟨x0, x1⟩ := two hR2
          clear hR2 hg d0 d1
          go_wp2_with fail
          all_goals go_returns
          all_goals exact ⟨rfl, S2.out, G2.out⟩
      · have hT : (if n = 0 then (([] : List UInt8), l, (0 : Int)) else (l.take n, l.drop n, 0)) = (l.take n, l.drop n, 0) := by
          split
          · rename_i hz; subst hz; rfl
          · rfl
        rw [if_neg h3]
        simp only
        rw [hT]
        clear hT
        have h3' : ¬ (l.length : Int) < (n : Int) := by omega
        rcases hM with ⟨hM, rfl⟩ | ⟨hM, rfl⟩
        · have h20 : ¬ (0 : Int) < (n : Int) := by omega
          clear herr h1 hlt hll h2
          go_enter Try.func24, Try.ntmps24
          go_wp2_with fail
          refine K.out.mono ?_
          rintro _ w1 ⟨rfl, hs, hg⟩
          have S1 := hid hs
          have G1 := hid hg
          clear hg
          obtain ⟨A, cap, hR, hcap, hb, hA, hBr⟩ := hs
          obtain ⟨c0, c1⟩ := two hR
          obtain ⟨f0, f1⟩ := twoF hR
          have HR := hid hR
          have HA := hid hA
          have h5 : (n : Int) ≤ (cap : Int) := by omega
          have h6 : (n : Int) ≤ (l.length : Int) := by omega
          have HB := hid hb
          have hst := hid (show ∀ c, (convert 22 9 (.slice A n c)).run Try.prog w1 = .ok (.string ⟨(l.take n).toArray⟩) w1 from fun c => by
            have := str_of c (bts_take n HB.out)
            rw [show (l.take n).length = n by rw [List.length_take]; omega] at this
            exact this)
          have hst2 := hst.out
          have HC := hid (show ∀ v, (w1.setCell ⟨rb, 0, none⟩ v).heap[rb]? = some (.cells #[v, .int .i64 0] 43 (0, 0)) from fun v => by simpa using heap_setCell_same w1 rb 0 _ 43 v HR.out)
          have hlen2 := hid (show (l.drop n).length = l.length - n from List.length_drop)
          clear hR hb hA
          go_upto_region 2 with fail
          clear m0 m1 hn'
          go_upto_region 4 with fail
          go_wp2_with fail
          all_goals go_returns
          all_goals
            refine ⟨rfl, ?_, grown_trans G1.out (grown_set _ _ _ _)⟩
            first
              | exact RR.set hBr (bts_map n HB.out) (cap' := cap - n) (by rw [hlen2.out]; omega) (low_map n HB.out HA.out) (by rw [hlen2.out]; exact HC.out _) (grown_set _ _ _ _)
              | exact RR.set (A' := A) hBr (.inl (List.drop_eq_nil_of_le (by omega))) (cap' := 0) (by rw [hlen2.out]; omega) (.inl (List.drop_eq_nil_of_le (by omega))) (by rw [hlen2.out]; exact HC.out _) (grown_set _ _ _ _)
        · clear herr h1 hlt hll
          go_enter Try.func24, Try.ntmps24
          go_wp2_with fail
          refine K.out.mono ?_
          rintro _ w1 ⟨rfl, hs, hg⟩
          have S1 := hid hs
          have G1 := hid hg
          clear hg
          obtain ⟨A, cap, hR, hcap, hb, hA, hBr⟩ := hs
          obtain ⟨c0, c1⟩ := two hR
          obtain ⟨f0, f1⟩ := twoF hR
          have HR := hid hR
          have HA := hid hA
          have h5 : (n : Int) ≤ (cap : Int) := by omega
          have h6 : (n : Int) ≤ (l.length : Int) := by omega
          have HB := hid hb
          have hst := hid (show ∀ c, (convert 22 9 (.slice A n c)).run Try.prog w1 = .ok (.string ⟨(l.take n).toArray⟩) w1 from fun c => by
            have := str_of c (bts_take n HB.out)
            rw [show (l.take n).length = n by rw [List.length_take]; omega] at this
            exact this)
          have hst2 := hst.out
          have HC := hid (show ∀ v, (w1.setCell ⟨rb, 0, none⟩ v).heap[rb]? = some (.cells #[v, .int .i64 0] 43 (0, 0)) from fun v => by simpa using heap_setCell_same w1 rb 0 _ 43 v HR.out)
          have hlen2 := hid (show (l.drop n).length = l.length - n from List.length_drop)
          clear hR hb hA
          go_upto_region 2 with fail
          clear m0 hn'
          go_upto_region 4 with fail
          go_wp2_with fail
          all_goals go_returns
          all_goals
            refine ⟨rfl, ?_, grown_trans G1.out (grown_set _ _ _ _)⟩
            first
              | exact RR.set hBr (bts_map n HB.out) (cap' := cap - n) (by rw [hlen2.out]; omega) (low_map n HB.out HA.out) (by rw [hlen2.out]; exact HC.out _) (grown_set _ _ _ _)
              | exact RR.set (A' := A) hBr (.inl (List.drop_eq_nil_of_le (by omega))) (cap' := 0) (by rw [hlen2.out]; omega) (.inl (List.drop_eq_nil_of_le (by omega))) (by rw [hlen2.out]; exact HC.out _) (grown_set _ _ _ _)
  · have h0 : n = 0 := herr he
    subst h0
    have n1 : (e1 == 0) = false := by simp [he]
    have n2 : (e1 != 0) = true := by simp [he]
    simp only [Nat.not_lt_zero, if_false, if_true]
    clear herr hM
    go_enter Try.func24, Try.ntmps24
    go_wp2_with fail
    refine K.out.mono ?_
    rintro _ w1 ⟨rfl, hs, hg⟩
    have S1 := hid hs
    have G1 := hid hg
    obtain ⟨A1, cap1, hR1, _, _, _, _⟩ := hs
    obtain ⟨d0, d1⟩ := two hR1
    clear hR1 hg
    go_wp2_with fail
    all_goals go_returns
    all_goals exact ⟨rfl, S1.out, G1.out⟩
end Go.Proofs.Ytanjgobcfgmpfaa
