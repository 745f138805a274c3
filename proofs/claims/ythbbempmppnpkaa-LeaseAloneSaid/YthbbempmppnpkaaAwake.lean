/- The statements' own example: true. Condition: none. -/
import Derived.Test.YthbbempmppnpkaaKeeper
namespace Go.Proofs.Ythbbempmppnpkaa
open Go Go.RowKit
theorem keepG {w w' : World} {k B : Nat} {c : Obj} (hg : w.grownBy w' (some k)) (h : w.heap[B]? = some c) (hne : B ≠ k) : w'.heap[B]? = some c := by
  rw [hg.block B (lt_of h) (fun e => hne (Option.some.inj e)), h]
set_option maxHeartbeats 2000000 in
theorem awake_any (w : World) : Calls Try.prog 8 #[] w fun e w' => e = .returned (.bool true) ∧ Below w.heap.size w w' := by
  have KN := hid (fun w => new_any w)
  have K1 : Hid (∀ db w, DK w db ⟨0, 0, 0⟩ → Calls Try.prog 12 #[.pointer (some ⟨db, 0, none⟩), .int .i64 1, .int .i64 0] w fun e w' => e = .returned (.tuple #[.agg #[.int .i64 1, .int .i64 1, .int .i64 40], .int .i64 0]) ∧ DK w' db ⟨1, 1, 40⟩ ∧ w.grownBy w' (some db)) := hid fun db w h => take_ok db ⟨0, 0, 0⟩ 1 0 w h (by simp [Clm.ok]) (by decide) (by decide) (by decide) (by decide)
  have K2 := hid (fun db w h => take_held db ⟨1, 1, 40⟩ 2 41 w h (by simp [Clm.ok]) (by decide) (by decide) (by decide))
  have K3 : Hid (∀ db w, DK w db ⟨1, 1, 40⟩ → Calls Try.prog 12 #[.pointer (some ⟨db, 0, none⟩), .int .i64 2, .int .i64 42] w fun e w' => e = .returned (.tuple #[.agg #[.int .i64 2, .int .i64 2, .int .i64 82], .int .i64 0]) ∧ DK w' db ⟨2, 2, 82⟩ ∧ w.grownBy w' (some db)) := hid fun db w h => take_ok db ⟨1, 1, 40⟩ 2 42 w h (by simp [Clm.ok]) (by decide) (by decide) (by decide) (by decide)
  rw [show heldF ⟨1, 1, 40⟩ 2 41 = 170 by decide] at K2
  simp only [Clm.cells] at K2
  have KK := hid (fun w => newkeeper_yes 2 5 w (by decide) (by decide))
  have KL : Hid (∀ (kb : Nat) (F : Nat → Int) (t v : Int) (b : Bool) (w : World), KP w kb 2 F → F 0 = v → decide (v ≤ t) = b → Calls Try.prog 23 #[.pointer (some ⟨kb, 0, none⟩), .int .i64 0, .int .i64 t] w fun e w' => e = .returned (.bool b) ∧ w = w') := hid fun kb F t v b w h hv hb => by
    have k := lost_yes kb 0 2 t F w h (by decide) (by decide)
    rw [hv, hb] at k
    exact k
  have KG : Hid (∀ (kb : Nat) (F : Nat → Int) (w : World), KP w kb 2 F → F 0 = 29 → Calls Try.prog 20 #[.pointer (some ⟨kb, 0, none⟩), .int .i64 0, .int .i64 10] w fun e w' => e = .returned (.tuple #[.int .i64 34, .bool true]) ∧ KP w' kb 2 (upd F 0 34) ∧ w.grownBy w' (some kb)) := hid fun kb F w h hv => by
    have k := grant_yes kb 0 2 10 F w h (by decide) (by decide) (by decide)
    rw [hv] at k
    exact k
  go_enter Try.func8, Try.ntmps8
  go_wp2_with fail
  refine (KN.out w).mono ?_
  rintro _ w1 ⟨rfl, hd, hb⟩
  have D1 := hid hd
  have G1 := hid hb
  have hlt1 := lt_of hd
  clear hd hb
  go_wp2_with fail
  refine (K1.out _ w1 D1.out).mono ?_
  rintro _ w2 ⟨rfl, hd, hg⟩
  have D2 := hid (DK.keep hd (show Below w2.heap.size w2 (w2.alloc (.cells #[.int .i64 1, .int .i64 1, .int .i64 40] 23)) from by go_grown))
  have G2 := hid ((Below.grown G1.out hg G1.out.size (fun k hk => by cases hk; exact Nat.le_refl _)).alloc (by have := G1.out.size; have := hg.size; omega) (.cells #[.int .i64 1, .int .i64 1, .int .i64 40] 23))
  have A2 := hid (heap_new w2 (.cells #[.int .i64 1, .int .i64 1, .int .i64 40] 23))
  have hlt2 := lt_of hd
  clear hd hg hlt1
  go_wp2_with fail
  refine (K2.out _ _ D2.out).mono ?_
  rintro _ w3 ⟨rfl, hb⟩
  have D3 := hid (DK.keep (DK.keep D2.out hb) (show Below w3.heap.size w3 (w3.alloc (.cells #[.int .i64 0, .int .i64 0, .int .i64 0] 23)) from by go_grown))
  have G3 := hid ((below_step G2.out G2.out.size hb).alloc (by have := G2.out.size; have := hb.size; simp at *; omega) (.cells #[.int .i64 0, .int .i64 0, .int .i64 0] 23))
  have A3 := hid (heapA (o := (.cells #[.int .i64 0, .int .i64 0, .int .i64 0] 23)) (keep0 hb A2.out))
  have hlt3 : w2.heap.size < w3.heap.size := by have := hb.size; simp at this; omega
  clear hb
  go_wp2_with fail
  refine (K3.out _ _ D3.out).mono ?_
  rintro _ w4 ⟨rfl, hd, hg⟩
  have A4 := hid (heapA (o := (.cells #[.int .i64 2, .int .i64 2, .int .i64 82] 23)) (keepG hg A3.out (by omega)))
  have B4 := hid (heap_new w4 (.cells #[.int .i64 2, .int .i64 2, .int .i64 82] 23))
  have G4 := hid ((Below.grown G3.out hg G3.out.size (fun k hk => by cases hk; exact Nat.le_refl _)).alloc (by have := G3.out.size; have := hg.size; omega) (.cells #[.int .i64 2, .int .i64 2, .int .i64 82] 23))
  clear hd hg
  go_wp2_with fail
  refine (KK.out _).mono ?_
  rintro _ w5 ⟨rfl, hk, hb⟩
  obtain ⟨F, hF⟩ : ∃ F, F = begF 2 5 := ⟨_, rfl⟩
  rw [show (w4.alloc (.cells #[.int .i64 2, .int .i64 2, .int .i64 82] 23)).heap.size = w4.heap.size + 1 by simp] at hk
  have KP5 := hid (show KP w5 (w4.heap.size + 1) 2 F by rw [hF]; exact hk)
  have F0 := hid (show F 0 = 29 by rw [hF]; decide)
  have A5 := hid (keep0 hb A4.out)
  have B5 := hid (keep0 hb B4.out)
  have G5 := hid (below_step G4.out G4.out.size hb)
  have hlt5 : w2.heap.size < w4.heap.size + 1 := by have := lt_of A4.out; simpa using this
  clear hk hb hF
  go_wp2_with fail
  refine (KL.out _ _ 28 29 false _ KP5.out F0.out (by decide)).mono ?_
  rintro _ w6 ⟨rfl, rfl⟩
  go_wp2_with fail
  refine (KL.out _ _ 29 29 true _ KP5.out F0.out (by decide)).mono ?_
  rintro _ w6 ⟨rfl, rfl⟩
  go_wp2_with fail
  refine (KG.out _ _ _ KP5.out F0.out).mono ?_
  rintro _ w6 ⟨rfl, hk, hg⟩
  have KP6 := hid hk
  have A6 := hid (keepG hg A5.out (by simp; omega))
  have B6 := hid (keepG hg B5.out (by simp))
  have G6 := hid (Below.grown G5.out hg G5.out.size (fun k hk => by cases hk; have := G4.out.size; simp at this; omega))
  have KL6 := hid (KL.out _ _ 33 34 false _ KP6.out (if_pos rfl) (by decide))
  obtain ⟨a0, a1, a2⟩ := three A6.out
  obtain ⟨b0, b1, b2⟩ := three B6.out
  clear hk hg
  go_wp2_with (go_at_call 23; refine KL6.out.mono ?_; rintro _ w7 ⟨rfl, rfl⟩)
  all_goals go_returns
  all_goals exact ⟨by first | rfl | simp, G6.out⟩
end Go.Proofs.Ythbbempmppnpkaa
