/- The reader's Text and End, called at any reader. Condition: the bytes stand in memory. -/
import Derived.Test.YtanjgobcfgmpfaaRText
namespace Go.Proofs.Ytanjgobcfgmpfaa
open Go Go.RowKit
theorem bts_take {w : World} {A : Option Addr} {bs : List UInt8} (m : Nat) (h : Bts w A bs) : Bts w A (bs.take m) := by
  rcases h with rfl | ⟨b, off, rfl, hlt, hc⟩
  · left
    simp
  · refine .inr ⟨b, off, rfl, hlt, fun j x hx => hc j x ?_⟩
    rw [List.getElem?_take] at hx
    split at hx
    · exact hx
    · cases hx
theorem ret_str {a b : ByteArray} (h : a = b) : Ending.returned (.string a) = .returned (.string b) := by rw [h]
/-- A text that is taken: its bytes, what is left, the error. -/
def takeT (m : Nat) (bs : List UInt8) (e : Int) : List UInt8 × List UInt8 × Int :=
  if (takeL m bs e).2.1.length < (takeL m bs e).1 then ([], [], 10) else if (takeL m bs e).1 = 0 then ([], (takeL m bs e).2.1, (takeL m bs e).2.2) else ((takeL m bs e).2.1.take (takeL m bs e).1, (takeL m bs e).2.1.drop (takeL m bs e).1, 0)
set_option maxHeartbeats 2000000 in
theorem rtext_any (rb : Nat) (bs : List UInt8) (e most : Int) (w : World) (h : RS w rb bs e) (hlen : bs.length ≤ 549755813888) (hm : -9223372036854775808 ≤ most ∧ most ≤ 9223372036854775807) :
    Calls Try.prog 23 #[.pointer (some ⟨rb, 0, none⟩), .int .i64 most] w fun en w' => en = .returned (.string ⟨(takeT (mostF most) bs e).1.toArray⟩) ∧ RS w' rb (takeT (mostF most) bs e).2.1 (takeT (mostF most) bs e).2.2 ∧ w.grownBy w' (some rb) := by
  have K := hid (rlen_any rb bs e most w h hlen hm)
  have herr : (takeL (mostF most) bs e).2.2 ≠ 0 → (takeL (mostF most) bs e).1 = 0 := takeL_err
  have hll := takeL_len (mostF most) bs e
  have ht : takeT (mostF most) bs e = if (takeL (mostF most) bs e).2.1.length < (takeL (mostF most) bs e).1 then ([], [], 10) else if (takeL (mostF most) bs e).1 = 0 then ([], (takeL (mostF most) bs e).2.1, (takeL (mostF most) bs e).2.2) else ((takeL (mostF most) bs e).2.1.take (takeL (mostF most) bs e).1, (takeL (mostF most) bs e).2.1.drop (takeL (mostF most) bs e).1, 0) := rfl
  rw [ht]
  clear h ht
  generalize takeL (mostF most) bs e = r at *
  obtain ⟨n, l, e1⟩ := r
  simp only at herr K hll ⊢
  by_cases hn : l.length < n
  · rw [if_pos hn]
    have he : e1 = 0 := by
      by_cases he : e1 = 0
      · exact he
      · have := herr he
        omega
    subst he
    have h3 : (l.length : Int) < (n : Int) := by omega
    clear herr
    go_enter Try.func23, Try.ntmps23
    go_wp2_with fail
    refine K.out.mono ?_
    rintro _ w1 ⟨rfl, hs, hg⟩
    have KL := hid (left_any rb l 0 w1 hs)
    have KF := hid (fail_ok rb l 10 w1 hs (by decide))
    have G1 := hid hg
    clear hs hg
    go_wp2_with fail
    refine KL.out.mono ?_
    rintro _ w2 ⟨rfl, rfl⟩
    go_wp2_with fail
    refine KF.out.mono ?_
    rintro _ w2 ⟨rfl, hs, hg⟩
    have S2 := hid hs
    have KE := hid (err_any rb [] 10 w2 hs)
    have G2 := hid (grown_trans G1.out hg)
    have h4 : ((n : Int) == 0) = false := by simp; omega
    clear hs hg
    go_wp2_with fail
    refine KE.out.mono ?_
    rintro _ w3 ⟨rfl, rfl⟩
    go_wp2_with fail
    all_goals go_returns
    all_goals exact ⟨rfl, S2.out, G2.out⟩
  · rw [if_neg hn]
    have h3 : ¬ (l.length : Int) < (n : Int) := by omega
    by_cases h0 : n = 0
    · rw [if_pos h0]
      subst h0
      clear herr
      go_enter Try.func23, Try.ntmps23
      go_wp2_with fail
      refine K.out.mono ?_
      rintro _ w1 ⟨rfl, hs, hg⟩
      have KL := hid (left_any rb l e1 w1 hs)
      have S1 := hid hs
      have G1 := hid hg
      clear hs hg
      go_wp2_with fail
      refine KL.out.mono ?_
      rintro _ w2 ⟨rfl, rfl⟩
      go_wp2_with fail
      all_goals go_returns
      all_goals exact ⟨rfl, S1.out, G1.out⟩
    · rw [if_neg h0]
      have he : e1 = 0 := by
        by_cases he : e1 = 0
        · exact he
        · have := herr he
          omega
      subst he
      have h4 : ((n : Int) == 0) = false := by simp; omega
      clear herr
      go_enter Try.func23, Try.ntmps23
      go_wp2_with fail
      refine K.out.mono ?_
      rintro _ w1 ⟨rfl, hs, hg⟩
      have KL := hid (left_any rb l 0 w1 hs)
      have KE := hid (err_any rb l 0 w1 hs)
      have G1 := hid hg
      obtain ⟨A, cap, hR, ⟨hcap, htag⟩, hb⟩ := hs
      have HTG := hid htag
      clear htag
      clear hg
      rcases hb with rfl | ⟨b, off, rfl, hbl, hc⟩
      · simp at hn
        omega
      · have HB : Hid (Bts w1 (some ⟨b, off, none⟩) l) := hid (.inr ⟨b, off, rfl, hbl, hc⟩)
        obtain ⟨c0, c1⟩ := two hR
        obtain ⟨f0, f1⟩ := twoF hR
        have hst := hid (show ∀ c, (convert 22 9 (.slice (some ⟨b, off, none⟩) n c)).run Try.prog w1 = .ok (.string ⟨(l.take n).toArray⟩) w1 from fun c => by
          have := str_of c (bts_take n HB.out)
          rw [show (l.take n).length = n by rw [List.length_take]; omega] at this
          exact this)
        have HC := hid (show ∀ v, (w1.setCell ⟨rb, 0, none⟩ v).heap[rb]? = some (.cells #[v, .int .i64 0] 61 (0, 0)) from fun v => by simpa using heap_setCell_same w1 rb 0 _ 61 v hR)
        have HD := hid (show ∀ v, Bts (w1.setCell ⟨rb, 0, none⟩ v) (some ⟨b, off, none⟩) l from fun v => bts_grown hR HB.out (grown_set w1 rb 0 v))
        have HG5 := hid (show ∀ v, Tag (w1.setCell ⟨rb, 0, none⟩ v) (some ⟨b, off, none⟩) from fun v => tag_grown hR HTG.out (grown_set w1 rb 0 v))
        have hlen2 := hid (show (l.drop n).length = l.length - n from List.length_drop)
        have hst2 := hst.out
        have h5 : (n : Int) ≤ (cap : Int) := by omega
        have h6 : (n : Int) ≤ (l.length : Int) := by omega
        clear HB hR hc
        go_wp2_with fail
        refine KL.out.mono ?_
        rintro _ w2 ⟨rfl, rfl⟩
        go_wp2_with fail
        refine KE.out.mono ?_
        rintro _ w2 ⟨rfl, rfl⟩
        go_wp2_with fail
        all_goals go_returns
        all_goals
          refine ⟨rfl, ?_, grown_trans G1.out (grown_set _ _ _ _)⟩
          first
            | exact ⟨some ⟨b, off + n, none⟩, cap - n, by rw [hlen2.out]; exact HC.out _, ⟨by rw [hlen2.out]; omega, tag_off (HG5.out _)⟩, bts_drop n (HD.out _)⟩
            | exact ⟨some ⟨b, off, none⟩, 0, by rw [hlen2.out]; exact HC.out _, ⟨by rw [hlen2.out]; omega, HG5.out _⟩, by rw [List.drop_eq_nil_of_le (by omega)]; exact .inl rfl⟩
/-- The error at the end: bytes that are left are one. -/
def endF (bs : List UInt8) (e : Int) : Int := if e = 0 ∧ bs ≠ [] then 11 else e
theorem rend_any (rb : Nat) (bs : List UInt8) (e : Int) (w : World) (h : RS w rb bs e) :
    Calls Try.prog 32 #[.pointer (some ⟨rb, 0, none⟩)] w fun en w' => en = .returned (.int .i64 (endF bs e)) ∧ RS w' rb (if e = 0 then [] else bs) (endF bs e) ∧ w.grownBy w' (some rb) := by
  have KL := hid (left_any rb bs e w h)
  have HS := hid h
  by_cases hz : bs = []
  · subst hz
    have e1 : endF [] e = e := by simp [endF]
    have e2 : (if e = 0 then ([] : List UInt8) else []) = [] := by split <;> rfl
    rw [e1, e2]
    have KE := hid (err_any rb [] e w h)
    clear h e1 e2
    go_enter Try.func32, Try.ntmps32
    go_wp2_with fail
    refine KL.out.mono ?_
    rintro _ w2 ⟨rfl, rfl⟩
    go_wp2_with fail
    refine KE.out.mono ?_
    rintro _ w2 ⟨rfl, rfl⟩
    go_wp2_with fail
    all_goals go_returns
    all_goals exact ⟨rfl, HS.out, World.grownBy.refl _ _⟩
  · have hp : (0 : Int) < (bs.length : Int) := by
      have := List.length_pos_iff.2 hz
      omega
    by_cases h0 : e = 0
    · subst h0
      have e1 : endF bs 0 = 11 := by simp [endF, hz]
      rw [e1, if_pos rfl]
      have KF := hid (fail_ok rb bs 11 w h (by decide))
      clear h e1
      go_enter Try.func32, Try.ntmps32
      go_wp2_with fail
      refine KL.out.mono ?_
      rintro _ w2 ⟨rfl, rfl⟩
      go_wp2_with fail
      refine KF.out.mono ?_
      rintro _ w2 ⟨rfl, hs, hg⟩
      have S2 := hid hs
      have KE := hid (err_any rb [] 11 w2 hs)
      have G2 := hid hg
      clear hs hg
      go_wp2_with fail
      refine KE.out.mono ?_
      rintro _ w3 ⟨rfl, rfl⟩
      go_wp2_with fail
      all_goals go_returns
      all_goals exact ⟨rfl, S2.out, G2.out⟩
    · have e1 : endF bs e = e := by simp [endF, h0]
      rw [e1, if_neg h0]
      have KF := hid (fail_not rb bs e 11 w h (.inl h0))
      have KE := hid (err_any rb bs e w h)
      clear h e1
      go_enter Try.func32, Try.ntmps32
      go_wp2_with fail
      refine KL.out.mono ?_
      rintro _ w2 ⟨rfl, rfl⟩
      go_wp2_with fail
      refine KF.out.mono ?_
      rintro _ w2 ⟨rfl, rfl⟩
      go_wp2_with fail
      refine KE.out.mono ?_
      rintro _ w3 ⟨rfl, rfl⟩
      go_wp2_with fail
      all_goals go_returns
      all_goals exact ⟨rfl, HS.out, World.grownBy.refl _ _⟩
end Go.Proofs.Ytanjgobcfgmpfaa
