/- What a pass promises, booked anew one by one: plain mathematics. Conditions: none. -/
import Derived.Test.YthkofnahimlijaaPlanC
namespace Go.Proofs.Ythkofnahimlijaa
open Go Go.RowKit
/-- The holds' bookings of a pass. -/
def hBk (now : Int) (hs : List Hd) : List Bk := hTo now (hdF hs) hs.length ++ []
theorem pass_good {xs : List V4} {up : List Bool} {now : Int} {hs : List Hd} (hE : opnE xs up now (hdF hs) hs.length = 0) : hFl xs.length now (fun i _ => wsF xs i) (hdF hs) hs.length = freeOf (wsF xs) (hBk now hs) ∧ Good xs.length (wsF xs) (hBk now hs) := by
  obtain ⟨h1, _, _, _, h5⟩ := opnE_zero hE
  have h := hold_good (D := []) (Good.nil xs.length (wsF xs) (wsF_ok h1)) h5
  have hnil : (fun i (_ : Int) => wsF xs i) = freeOf (wsF xs) [] := (freeOf_nil (wsF xs)).symm
  rw [hnil]
  exact h
noncomputable def passP (xs : List V4) (up : List Bool) (now : Int) (hs : List Hd) (ks : List Ak) (k : Nat) : List Bk := promTo up xs.length (wsF xs) now (freeOf (wsF xs) (hBk now hs)) (akF ks) ks.length k ++ hBk now hs
section
variable {xs : List V4} {up : List Bool} {now : Int} {hs : List Hd} {ks : List Ak}
theorem passS_eq (hE : opnE xs up now (hdF hs) hs.length = 0) : passS xs up now hs ks = slot up xs.length (wsF xs) now (freeOf (wsF xs) (hBk now hs)) (akF ks) ks.length := by
  unfold passS
  rw [(pass_good hE).1]
theorem passP_zero : passP xs up now hs ks 0 = hBk now hs := rfl
theorem passP_good (hE : opnE xs up now (hdF hs) hs.length = 0) : Good xs.length (wsF xs) (passP xs up now hs ks ks.length) := by
  have h := (turn_good (up := up) (now := now) (al := akF ks) (pass_good hE).2 ks.length (Nat.le_refl _)).2
  rw [keptFrom_end, List.append_nil] at h
  exact h
theorem promTo_split (F0 : Nat → Int → V4) (Ws : Nat → V4) (n : Nat) (al : Nat → Ak) (N k d : Nat) : ∃ R, promTo up n Ws now F0 al N (k + d) = promTo up n Ws now F0 al N k ++ R := by
  induction d with
  | zero => exact ⟨[], by simp⟩
  | succ d ih =>
    obtain ⟨R, hR⟩ := ih
    rw [show k + (d + 1) = k + d + 1 from rfl, promTo_step, hR]
    exact ⟨_, List.append_assoc _ _ _⟩
theorem passP_goodK (hE : opnE xs up now (hdF hs) hs.length = 0) {k : Nat} (hk : k ≤ ks.length) : Good xs.length (wsF xs) (passP xs up now hs ks k) := by
  have h := passP_good (ks := ks) hE
  obtain ⟨R, hR⟩ := promTo_split (up := up) (now := now) (freeOf (wsF xs) (hBk now hs)) (wsF xs) xs.length (akF ks) ks.length k (ks.length - k)
  rw [show k + (ks.length - k) = ks.length by omega] at hR
  unfold passP at h ⊢
  rw [hR, List.append_assoc] at h
  refine Good.right (D := R) (h.perm ?_)
  rw [← List.append_assoc, ← List.append_assoc]
  exact List.Perm.append_right _ List.perm_append_comm
theorem passP_step (hE : opnE xs up now (hdF hs) hs.length = 0) {k : Nat} (hk : k < ks.length) (h0 : 0 ≤ (passS xs up now hs ks k).t) :
    pkF xs.length (freeOf (wsF xs) (passP xs up now hs ks k)) (intL (passS xs up now hs ks k).l) (passS xs up now hs ks k).t ((passS xs up now hs ks k).t + (akF ks k).k) (akF ks k).v = freeOf (wsF xs) (passP xs up now hs ks (k + 1)) ∧
    gvF xs.length (wsF xs) (freeOf (wsF xs) (passP xs up now hs ks (k + 1))) (intL (passS xs up now hs ks k).l) (passS xs up now hs ks k).t ((passS xs up now hs ks k).t + (akF ks k).k) (akF ks k).v = freeOf (wsF xs) (passP xs up now hs ks k) := by
  have hg := passP_goodK (ks := ks) hE (k := k + 1) hk
  rw [passS_eq hE] at h0 ⊢
  have e : (passP xs up now hs ks (k + 1)).Perm (bkS up xs.length (wsF xs) now (freeOf (wsF xs) (hBk now hs)) (akF ks) ks.length k :: passP xs up now hs ks k) := by
    unfold passP
    rw [promTo_step, if_pos h0, List.append_assoc]
    exact List.perm_middle
  have hg2 := hg.perm e
  rw [freeOf_perm (wsF xs) e]
  exact ⟨(pk_good hg2).2, gv_good hg2⟩
theorem passP_skip (hE : opnE xs up now (hdF hs) hs.length = 0) {k : Nat} (h0 : ¬ 0 ≤ (passS xs up now hs ks k).t) : passP xs up now hs ks (k + 1) = passP xs up now hs ks k := by
  rw [passS_eq hE] at h0
  unfold passP
  rw [promTo_step, if_neg h0, List.append_nil]
theorem passS_last (hE : opnE xs up now (hdF hs) hs.length = 0) {L : Nat} (hL : ks.length = L + 1) : passS xs up now hs ks L = slt up xs.length now (freeOf (wsF xs) (passP xs up now hs ks L)) (akF ks L) := by
  rw [passS_eq hE]
  unfold slot
  have h := (turn_fA (up := up) (now := now) (al := akF ks) (N := ks.length) (k := L) (pass_good hE).2 (by omega)).1
  rw [h]
  have e : bkT up xs.length (wsF xs) now (hBk now hs) (akF ks) ks.length L = passP xs up now hs ks L := by
    unfold bkT passP
    rw [← hL, keptFrom_end, List.append_nil]
  rw [e]
/-- What was promised: a tick and an end that are ticks, a gang of the pool. -/
theorem passS_found (hE : opnE xs up now (hdF hs) hs.length = 0) {k : Nat} (h0 : 0 ≤ (passS xs up now hs ks k).t) : (passS xs up now hs ks k).t + (akF ks k).k ≤ 1099511627776 ∧ 0 < (akF ks k).k := by
  rw [passS_eq hE] at h0 ⊢
  obtain ⟨h1, h2⟩ := slt_found h0
  have h3 := h1.2.2.2.2.2.1
  have h4 := h1.1
  unfold askB at h4
  simp only [Bool.and_eq_true, decide_eq_true_eq] at h4
  exact ⟨by unfold slot; omega, h4.1.2⟩
end
theorem sltT {up : List Bool} {n : Nat} {now : Int} {F : Nat → Int → V4} {a : Ak} (h : askB a = false) : (slt up n now F a).t = -1 := by
  rw [slt_none (fun t ht => by rw [ht.1] at h; cases h)]
end Go.Proofs.Ythkofnahimlijaa
