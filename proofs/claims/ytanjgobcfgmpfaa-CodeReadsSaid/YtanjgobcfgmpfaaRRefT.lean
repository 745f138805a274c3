/- The document's reader R: Uint, Int, End, Text at any reader. Conditions: the bytes stand in memory below the reader. -/
import Derived.Test.YtanjgobcfgmpfaaRRef
import Derived.Test.YtanjgobcfgmpfaaRTxt
namespace Go.Proofs.Ytanjgobcfgmpfaa
open Go Go.RowKit
theorem ret_int64 {a b : Int} (h : a = b) : Ending.returned (.int .i64 a) = .returned (.int .i64 b) := by rw [h]
theorem rr_grown_refl {w : World} {rb : Nat} : w.grownBy w (some rb) := grown_below (Below.refl _ w) _
set_option maxHeartbeats 1000000 in
theorem refuint_any (B rb : Nat) (bs : List UInt8) (e : Int) (w : World) (h : RR w B rb bs e) (hlen : bs.length ≤ 549755813888) :
    Calls Try.prog 20 #[.pointer (some ⟨rb, 0, none⟩)] w fun en w' => en = .returned (.int .u64 ((takeU bs e).1 : Nat)) ∧ RR w' B rb (takeU bs e).2.1 (takeU bs e).2.2 ∧ w.grownBy w' (some rb) := by
  by_cases h0 : e = 0
  · subst h0
    exact refuint_ok B rb bs w h hlen
  · have et : takeU bs e = (0, bs, e) := by rw [takeU, if_neg h0]
    rw [et]
    have HS := hid h
    obtain ⟨A, cap, hR, hcap, hb, hA, hBr⟩ := h
    obtain ⟨c0, c1⟩ := two hR
    have n1 : (e == 0) = false := by simp [h0]
    clear hR hcap hb hA hBr h0
    go_enter Try.func20, Try.ntmps20
    go_wp2_with fail
    go_loop [3, 4, 5] (fun m q i => m = .int .u64 0 ∧ q = .int .u64 1 ∧ i = .int .i64 0) (fun _ _ _ => 0)
    case atStart => exact ⟨rfl, rfl, rfl⟩
    case round =>
      obtain ⟨rfl, rfl, rfl⟩ := hrel
      go_wp2_with fail
      all_goals go_returns
      all_goals exact ⟨rfl, HS.out, rr_grown_refl⟩
set_option maxHeartbeats 1000000 in
theorem refint_any (B rb : Nat) (bs : List UInt8) (e : Int) (w : World) (h : RR w B rb bs e) (hlen : bs.length ≤ 549755813888) :
    Calls Try.prog 22 #[.pointer (some ⟨rb, 0, none⟩)] w fun en w' => en = .returned (.int .i64 (unfoldF (takeU bs e).1)) ∧ RR w' B rb (takeU bs e).2.1 (takeU bs e).2.2 ∧ w.grownBy w' (some rb) := by
  have K := hid (refuint_any B rb bs e w h hlen)
  have hlt := takeU_lt bs e
  clear h
  generalize takeU bs e = r at *
  obtain ⟨n, l, e1⟩ := r
  simp only at K hlt ⊢
  have hn' : (n : Int) < 18446744073709551616 := by omega
  by_cases hp : n % 2 = 1
  · have hp' : ((n : Int) % 2 == 1) = true := by simp; omega
    have hu : unfoldF n = -((n : Int) / 2) - 1 := by unfold unfoldF; rw [if_pos hp]; omega
    rw [hu]
    clear hu hp
    go_enter Try.func22, Try.ntmps22
    go_wp2_with fail
    refine K.out.mono ?_
    rintro _ w1 ⟨rfl, hs, hg⟩
    have S1 := hid hs
    have G1 := hid hg
    clear hs hg
    go_wp2_with fail
    all_goals go_returns
    all_goals exact ⟨ret_int64 (by omega), S1.out, G1.out⟩
  · have hp' : ((n : Int) % 2 == 1) = false := by simp; omega
    have hu : unfoldF n = (n : Int) / 2 := by unfold unfoldF; rw [if_neg hp]; omega
    rw [hu]
    clear hu hp
    go_enter Try.func22, Try.ntmps22
    go_wp2_with fail
    refine K.out.mono ?_
    rintro _ w1 ⟨rfl, hs, hg⟩
    have S1 := hid hs
    have G1 := hid hg
    clear hs hg
    go_wp2_with fail
    all_goals go_returns
    all_goals exact ⟨ret_int64 (by omega), S1.out, G1.out⟩
set_option maxHeartbeats 1000000 in
theorem refend_any (B rb : Nat) (bs : List UInt8) (e : Int) (w : World) (h : RR w B rb bs e) (hlen : bs.length ≤ 549755813888) :
    Calls Try.prog 33 #[.pointer (some ⟨rb, 0, none⟩)] w fun en w' => en = .returned (.int .i64 (endF bs e)) ∧ RR w' B rb (if e = 0 then [] else bs) (endF bs e) ∧ w.grownBy w' (some rb) := by
  have HS := hid h
  have KF := hid (fun (h0 : e = 0) => rfail_ok B rb bs 11 w (by rw [← h0]; exact h) (by decide))
  obtain ⟨A, cap, hR, hcap, hb, hA, hBr⟩ := h
  obtain ⟨c0, c1⟩ := two hR
  clear hR hcap hb hA hBr
  by_cases h0 : e = 0
  · rw [if_pos h0]
    by_cases hz : bs = []
    · have ez : endF bs e = 0 := by simp [endF, hz, h0]
      rw [ez]
      have S0 := hid (show RR w B rb [] 0 from by have := HS.out; rw [hz, h0] at this; exact this)
      subst h0 hz
      simp at c0
      go_enter Try.func33, Try.ntmps33
      go_wp2_with fail
      all_goals go_returns
      all_goals exact ⟨rfl, S0.out, rr_grown_refl⟩
    · have ez : endF bs e = 11 := by simp [endF, hz, h0]
      rw [ez]
      have KF2 := hid (KF.out h0)
      have hl : (0 : Int) < (bs.length : Int) := by have := List.length_pos_iff.2 hz; omega
      have hl2 : (bs.length : Int) ≤ 549755813888 := by omega
      subst h0
      clear hz ez KF
      go_enter Try.func33, Try.ntmps33
      go_wp2_with fail
      refine KF2.out.mono ?_
      rintro _ w1 ⟨rfl, hs, hg⟩
      have S1 := hid hs
      have G1 := hid hg
      obtain ⟨A1, cap1, hR1, _, _, _, _⟩ := hs
      obtain ⟨d0, d1⟩ := two hR1
      clear hR1 hg c0 c1
      go_wp2_with fail
      all_goals go_returns
      all_goals exact ⟨rfl, S1.out, G1.out⟩
  · rw [if_neg h0]
    have ez : endF bs e = e := by simp [endF, h0]
    rw [ez]
    have n1 : (e == 0) = false := by simp [h0]
    clear ez h0 KF
    go_enter Try.func33, Try.ntmps33
    go_wp2_with fail
    all_goals go_returns
    all_goals exact ⟨rfl, HS.out, rr_grown_refl⟩
end Go.Proofs.Ytanjgobcfgmpfaa
