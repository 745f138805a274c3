/- The document's examples: what the law's own first call answers. Conditions: none. -/
import Derived.Test.YtadnbhjbaicjeaaProf9
namespace Go.Proofs.Ytadnbhjbaicjeaa
open Go Go.RowKit
instance decLe (x y : V4) : Decidable (x.le y) := by unfold V4.le; exact inferInstance
def aF : Int → V4 := chF (fun _ => ⟨4, 0, 0, 0⟩) 2 5 fun x => x.sub ⟨3, 0, 0, 0⟩
theorem aF_in {t : Int} (h : 2 ≤ t) (k : t < 5) : aF t = ⟨1, 0, 0, 0⟩ := chF_in h k
theorem aF_out {t : Int} (h : t < 2 ∨ 5 ≤ t) : aF t = ⟨4, 0, 0, 0⟩ := chF_out h
def aT : Nat → Int
  | 0 => 0
  | 1 => 2
  | _ => 5
def aV : Nat → V4
  | 0 => ⟨4, 0, 0, 0⟩
  | 1 => ⟨1, 0, 0, 0⟩
  | _ => ⟨4, 0, 0, 0⟩
theorem aR : Rp 3 aT aV 1099511627777 aF := by
  refine ⟨by omega, fun _ => by omega, fun _ => rfl, fun i hi => ?_, fun i hi => ?_, fun i hi => ?_, fun i hi t t1 t2 t3 => ?_⟩
  · match i, hi with
    | 0, _ => decide
    | 1, _ => decide
  · match i, hi with
    | 0, _ => decide
    | 1, _ => decide
    | 2, _ => decide
  · match i, hi with
    | 0, _ => decide
    | 1, _ => decide
  · match i, hi with
    | 0, _ =>
      have := t2 (by omega)
      exact aF_out (.inl this)
    | 1, _ =>
      have := t2 (by omega)
      exact aF_in t1 this
    | 2, _ => exact aF_out (.inr t1)
theorem aw_take (p : Nat) (w : World) (h : Pr w p ⟨4, 0, 0, 0⟩ (fun _ => ⟨4, 0, 0, 0⟩)) : Calls Try.prog 11 #[.pointer (some ⟨p, 0, none⟩), .int .i64 2, .int .i64 5, .agg #[.int .i64 3, .int .i64 0, .int .i64 0, .int .i64 0]] w fun e w' => e = .returned (.int .i64 0) ∧ Pr w' p ⟨4, 0, 0, 0⟩ aF ∧ w.grownBy w' (some p) := by
  refine (take_any p _ _ 2 5 ⟨3, 0, 0, 0⟩ w h).mono ?_
  rintro e w' (⟨_, h2, _⟩ | ⟨_, _, ⟨t, _, _, h2⟩, _⟩ | ⟨h1, _, _, h4, h5⟩)
  · rcases h2 with h2 | h2 <;> simp [spanB, V4.okB] at h2
  · exact absurd (by decide : (V4.le ⟨3, 0, 0, 0⟩ ⟨4, 0, 0, 0⟩)) h2
  · exact ⟨h1, h5, h4⟩
theorem aw_busy (p : Nat) (w : World) (h : Pr w p ⟨4, 0, 0, 0⟩ aF) : Calls Try.prog 11 #[.pointer (some ⟨p, 0, none⟩), .int .i64 4, .int .i64 6, .agg #[.int .i64 2, .int .i64 0, .int .i64 0, .int .i64 0]] w fun e w' => e = .returned (.int .i64 60) ∧ Below w.heap.size w w' := by
  refine (take_any p _ _ 4 6 ⟨2, 0, 0, 0⟩ w h).mono ?_
  rintro e w' (⟨_, h2, _⟩ | ⟨h1, _, _, h4⟩ | ⟨h1, _, h3, _⟩)
  · rcases h2 with h2 | h2 <;> simp [spanB, V4.okB] at h2
  · exact ⟨h1, h4⟩
  · have := h3 4 (by omega) (by omega)
    rw [aF_in (by omega) (by omega)] at this
    exact absurd this (by decide)
theorem aw_idle (p : Nat) (w : World) (h : Pr w p ⟨4, 0, 0, 0⟩ aF) : Calls Try.prog 13 #[.pointer (some ⟨p, 0, none⟩), .int .i64 5, .int .i64 6, .agg #[.int .i64 1, .int .i64 0, .int .i64 0, .int .i64 0]] w fun e w' => e = .returned (.int .i64 61) ∧ Below w.heap.size w w' := by
  refine (give_any p _ _ 5 6 ⟨1, 0, 0, 0⟩ w h).mono ?_
  rintro e w' (⟨_, h2, _⟩ | ⟨h1, _, _, h4⟩ | ⟨h1, _, h3, _⟩)
  · rcases h2 with h2 | h2 <;> simp [spanB, V4.okB] at h2
  · exact ⟨h1, h4⟩
  · have := h3 5 (by omega) (by omega)
    rw [aF_out (by omega)] at this
    exact absurd this (by decide)
theorem aw_fit5 : Fit aF ⟨2, 0, 0, 0⟩ 5 3 := fun u h1 h2 => by
  rw [aF_out (by omega)]
  decide
theorem aw_fit0 : Fit aF ⟨2, 0, 0, 0⟩ 0 2 := fun u h1 h2 => by
  rw [aF_out (by omega)]
  decide
theorem aw_e3 (p : Nat) (w : World) (h : Pr w p ⟨4, 0, 0, 0⟩ aF) : Calls Try.prog 14 #[.pointer (some ⟨p, 0, none⟩), .int .i64 0, .int .i64 3, .agg #[.int .i64 2, .int .i64 0, .int .i64 0, .int .i64 0]] w fun e w' => e = .returned (.tuple #[.int .i64 5, .bool true]) ∧ Below w.heap.size w w' := by
  refine (earl_pr p _ _ 0 3 ⟨2, 0, 0, 0⟩ w h (by decide) (by omega) (by omega) (by omega)).mono ?_
  rintro e w' ⟨hb, ⟨t, h1, h2, h3, h4, h5⟩ | ⟨h1, h2⟩⟩
  · have : t = 5 := by
      rcases Int.lt_trichotomy t 5 with hlt | heq | hgt
      · have := h4 (max t 2) (by omega) (by omega)
        rw [aF_in (by omega) (by omega)] at this
        exact absurd this (by decide)
      · exact heq
      · exact absurd aw_fit5 (h5 5 (by omega) hgt)
    rw [this] at h1
    exact ⟨h1, hb⟩
  · exact absurd aw_fit5 (h2 5 (by omega) (by omega))
theorem aw_e2 (p : Nat) (w : World) (h : Pr w p ⟨4, 0, 0, 0⟩ aF) : Calls Try.prog 14 #[.pointer (some ⟨p, 0, none⟩), .int .i64 0, .int .i64 2, .agg #[.int .i64 2, .int .i64 0, .int .i64 0, .int .i64 0]] w fun e w' => e = .returned (.tuple #[.int .i64 0, .bool true]) ∧ Below w.heap.size w w' := by
  refine (earl_pr p _ _ 0 2 ⟨2, 0, 0, 0⟩ w h (by decide) (by omega) (by omega) (by omega)).mono ?_
  rintro e w' ⟨hb, ⟨t, h1, h2, h3, h4, h5⟩ | ⟨h1, h2⟩⟩
  · have : t = 0 := by
      rcases Int.lt_trichotomy t 0 with hlt | heq | hgt
      · omega
      · exact heq
      · exact absurd aw_fit0 (h5 0 (by omega) hgt)
    rw [this] at h1
    exact ⟨h1, hb⟩
  · exact absurd aw_fit0 (h2 0 (by omega) (by omega))
def AwSteps (w : World) (e : Ending) (w' : World) : Prop := ∃ b cap, e = .returned (.slice (some ⟨b, 0, none⟩) 3 cap) ∧ Sl w' b 3 aT aV ∧ 3 ≤ cap ∧ Below w.heap.size w w'
theorem aw_steps (p : Nat) (w : World) (h : Pr w p ⟨4, 0, 0, 0⟩ aF) : Calls Try.prog 9 #[.pointer (some ⟨p, 0, none⟩)] w (AwSteps w) := by
  refine (steps_pr p _ _ w h).mono ?_
  rintro e w' ⟨b, cap, n, T, V, h1, h2, h3, h4, h5, h6, h7, h8⟩
  obtain ⟨rfl, hu⟩ := aR.unique h7 (fun _ _ _ => rfl)
  exact ⟨b, cap, h1, h2.congr (fun i hi => (hu i hi).1) (fun i hi => (hu i hi).2), h3, h8⟩
set_option maxRecDepth 100000 in
set_option maxHeartbeats 2000000 in
theorem awake_any (w : World) : Calls Try.prog 7 #[] w fun e w' => e = .returned (.bool true) ∧ Below w.heap.size w w' := by
  have KN : Hid (∀ w1, Calls Try.prog 19 #[.agg #[.int .i64 4, .int .i64 0, .int .i64 0, .int .i64 0]] w1 (NewPr w1 ⟨4, 0, 0, 0⟩)) := hid fun w1 => new_pr ⟨4, 0, 0, 0⟩ (by decide) w1
  have KT := hid aw_take
  have KB := hid aw_busy
  have KI := hid aw_idle
  have K3 := hid aw_e3
  have K2 := hid aw_e2
  have KS := hid aw_steps
  have hE : ∀ w1, (Op.equalIn 10000 43 (.agg #[.int .i64 2, .int .i64 1, .int .i64 0, .int .i64 0, .int .i64 0]) (.agg #[.int .i64 2, .int .i64 1, .int .i64 0, .int .i64 0, .int .i64 0])).run Try.prog w1 = .ok true w1 := fun w1 => eq_step 2 2 ⟨1, 0, 0, 0⟩ ⟨1, 0, 0, 0⟩ w1
  go_enter Try.func7, Try.ntmps7
  go_wp2_with fail
  refine (KN.out _).mono ?_
  rintro _ w1 ⟨p, rfl, hp, hpl, hb⟩
  have P1 := hid hp
  have g1 := hid hb
  have hpw := hp.lt
  clear hp hb
  go_wp2_with fail
  refine (KT.out p _ P1.out).mono ?_
  rintro _ w2 ⟨rfl, hp, hb⟩
  have P2 := hid hp
  have g2 := hid (show Below w.heap.size w w2 from ⟨hb.os.trans g1.out.os, hb.tape.trans g1.out.tape, hb.output.trans g1.out.output, Nat.le_trans g1.out.size hb.size, fun k hk => (hb.block k (by have := g1.out.size; omega) (fun e => by cases e; omega)).trans (g1.out.block k hk)⟩)
  clear hp hb P1 KT
  go_wp2_with fail
  refine (KS.out p _ P2.out).mono ?_
  rintro _ w3 ⟨b, cap, rfl, hs, hcap, hb⟩
  have P3 := hid (P2.out.keep hb)
  have g3 := hid (below_step g2.out g2.out.size hb)
  have S3 := hid hs
  clear hs hb
  go_wp2_with fail
  refine (K3.out p _ P3.out).mono ?_
  rintro _ w4 ⟨rfl, hb⟩
  have P4 := hid (P3.out.keep hb)
  have g4 := hid (below_step g3.out g3.out.size hb)
  have S4 := hid (S3.out.keep hb)
  clear hb
  go_wp2_with fail
  refine (K2.out p _ P4.out).mono ?_
  rintro _ w5 ⟨rfl, hb⟩
  have P5 := hid (P4.out.keep hb)
  have g5 := hid (below_step g4.out g4.out.size hb)
  have S5 := hid (S4.out.keep hb)
  clear hb
  obtain ⟨y0, y1, y2, y3, y4⟩ := S5.out.cells (i := 1) (by omega)
  have z0 : w5.cell? ⟨b, 5, none⟩ = some (.int .i64 2) := y0
  have z1 : w5.cell? ⟨b, 6, none⟩ = some (.int .i64 1) := y1
  have z2 : w5.cell? ⟨b, 7, none⟩ = some (.int .i64 0) := y2
  have z3 : w5.cell? ⟨b, 8, none⟩ = some (.int .i64 0) := y3
  have z4 : w5.cell? ⟨b, 9, none⟩ = some (.int .i64 0) := y4
  clear y0 y1 y2 y3 y4
  go_wp2_with (first
    | (go_at_call 11; (with_reducible refine (KB.out p _ P5.out).mono ?_); rintro _ w6 ⟨rfl, hb⟩; have P6 := hid (P5.out.keep hb); have g6 := hid (below_step g5.out g5.out.size hb); clear hb)
    | (go_at_call 13; (with_reducible refine (KI.out p _ P6.out).mono ?_); rintro _ w7 ⟨rfl, hb⟩; have g7 := hid (below_step g6.out g6.out.size hb); clear hb))
  go_returns
  exact ⟨rfl, g7.out⟩
end Go.Proofs.Ytadnbhjbaicjeaa
