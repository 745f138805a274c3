/- The statements' own example: true. Condition: none. -/
import Derived.Test.YtanjgobcfgmpfaaRTxt
import Derived.Deep.RegionWith
namespace Go.Proofs.Ytanjgobcfgmpfaa
open Go Go.RowKit
theorem RS.keep {w w' : World} {rb : Nat} {bs : List UInt8} {e : Int} (h : RS w rb bs e) (hb : Below w.heap.size w w') : RS w' rb bs e := by
  obtain ⟨A, cap, hR, hcap, hbt⟩ := h
  exact ⟨A, cap, keep0 hb hR, ⟨hcap.1, tag_below hcap.2 hb⟩, hbt.keep hb⟩
theorem enc300 : encU 300 = [172, 2] := by
  rw [encU_big (by decide), encU_small (by decide)]
  rfl
theorem lit_str {w : World} {b : Nat} (h : w.heap[b]? = some (.cells #[.int .u8 172, .int .u8 2] 5 (0, 0))) : (convert 22 9 (.slice (some ⟨b, 0, none⟩) 2 2)).run Try.prog w = .ok (.string ⟨#[172, 2]⟩) w :=
  str_of (bs := [172, 2]) 2 (.inr ⟨b, 0, rfl, lt_of h, fun j x hx => by
    rw [cell_of h, Nat.zero_add]
    match j, hx with
    | 0, hx => cases hx; rfl
    | 1, hx => cases hx; rfl⟩)
theorem six_bts (w : World) : Bts (w.alloc (.cells #[.int .u8 172, .int .u8 2, .int .u8 1, .int .u8 2, .int .u8 97, .int .u8 98] 5)) (some ⟨w.heap.size, 0, none⟩) [172, 2, 1, 2, 97, 98] :=
  .inr ⟨w.heap.size, 0, rfl, by simp, fun j x hx => by
    rw [cell_of (heap_new w _), Nat.zero_add]
    match j, hx with
    | 0, hx => cases hx; rfl
    | 1, hx => cases hx; rfl
    | 2, hx => cases hx; rfl
    | 3, hx => cases hx; rfl
    | 4, hx => cases hx; rfl
    | 5, hx => cases hx; rfl⟩
set_option maxHeartbeats 4000000 in
theorem awake_any (w : World) : Calls Try.prog 9 #[] w fun e w' => e = .returned (.bool true) ∧ Below w.heap.size w w' := by
  have KR := hid (read_any (some ⟨w.heap.size, 0, none⟩) 6 [172, 2, 1, 2, 97, 98] (w.alloc (.cells #[.int .u8 172, .int .u8 2, .int .u8 1, .int .u8 2, .int .u8 97, .int .u8 98] 5)) (six_bts w) (by decide))
  have KU : Hid (∀ w, Calls Try.prog 10 #[.slice none 0 0, .int .u64 300] w fun e w' => ∃ v, e = .returned v ∧ Own w' w.heap.size v [172, 2] ∧ Below w.heap.size w w') := hid fun w => by
    have h := uint_any none 0 300 [] w (.inl rfl) (by decide) (by decide)
    rw [enc300] at h
    exact h
  have K19 : Hid (∀ w rb, RS w rb [172, 2, 1, 2, 97, 98] 0 → Calls Try.prog 19 #[.pointer (some ⟨rb, 0, none⟩)] w fun en w' => en = .returned (.int .u64 300) ∧ RS w' rb [1, 2, 97, 98] 0 ∧ w.grownBy w' (some rb)) := hid fun w rb h => ruint_any rb _ 0 w h (by decide)
  have K21 : Hid (∀ w rb, RS w rb [1, 2, 97, 98] 0 → Calls Try.prog 21 #[.pointer (some ⟨rb, 0, none⟩)] w fun en w' => en = .returned (.int .i64 (-1)) ∧ RS w' rb [2, 97, 98] 0 ∧ w.grownBy w' (some rb)) := hid fun w rb h => rint_any rb _ 0 w h (by decide)
  have K23 : Hid (∀ w rb, RS w rb [2, 97, 98] 0 → Calls Try.prog 23 #[.pointer (some ⟨rb, 0, none⟩), .int .i64 2] w fun en w' => en = .returned (.string ⟨#[97, 98]⟩) ∧ RS w' rb [] 0 ∧ w.grownBy w' (some rb)) := hid fun w rb h => rtext_any rb _ 0 2 w h (by decide) (by decide)
  have K32 : Hid (∀ w rb, RS w rb [] 0 → Calls Try.prog 32 #[.pointer (some ⟨rb, 0, none⟩)] w fun en w' => en = .returned (.int .i64 0) ∧ RS w' rb [] 0 ∧ w.grownBy w' (some rb)) := hid fun w rb h => rend_any rb _ 0 w h
  have g0 := hid (show Below w.heap.size w (w.alloc (.cells #[.int .u8 172, .int .u8 2, .int .u8 1, .int .u8 2, .int .u8 97, .int .u8 98] 5)) from by go_grown)
  go_enter Try.func9, Try.ntmps9
  go_wp2_with fail
  refine KR.out.mono ?_
  rintro _ w1 ⟨rb, rfl, hrb, hs, hb⟩
  have g1 := hid (below_step g0.out (by go_size) hb)
  have S1 := hid hs
  have hrb' := hid (show ∀ k, some rb = some k → w.heap.size ≤ k from fun k hk => by
    cases hk
    simp at hrb
    omega)
  clear hs hb hrb g0 KR
  have hl1 := lit_str (b := w1.heap.size) (w := w1.alloc (.cells #[.int .u8 172, .int .u8 2] 5)) (heap_new w1 _)
  have hl1d : (convert 22 9 (.slice (some ⟨w1.heap.size, 0, none⟩) 2 2)).run Try.prog (w1.alloc (.cells #[.int .u8 172, .int .u8 2] 5)).drew = .ok (.string ⟨#[172, 2]⟩) (w1.alloc (.cells #[.int .u8 172, .int .u8 2] 5)).drew := lit_str (heap_new w1 _)
  go_wp2_with fail
  go_region_with (first
    | (go_at_call 10; first
      | (refine (KU.out (World.drew w1)).mono ?_; rintro _ w2 ⟨v, rfl, ho, hb⟩; obtain ⟨A, cap, rfl, hbt, _⟩ := ho.is; have g2 := hid (below_step g1.out g1.out.size (unD hb)); have S2 := hid (S1.out.keep (unD hb)); have g2a := hid (g2.out.alloc g2.out.size (.cells #[.int .u8 172, .int .u8 2] 5)); have S2a := hid (S2.out.keep (show Below w2.heap.size w2 (w2.alloc (.cells #[.int .u8 172, .int .u8 2] 5)) from by go_grown)); have hs1 : (convert 22 9 (.slice A 2 cap)).run Try.prog w2 = .ok (.string ⟨#[172, 2]⟩) w2 := str_of cap hbt; have hs2 : (convert 22 9 (.slice A 2 cap)).run Try.prog (w2.alloc (.cells #[.int .u8 172, .int .u8 2] 5)) = .ok (.string ⟨#[172, 2]⟩) (w2.alloc (.cells #[.int .u8 172, .int .u8 2] 5)) := str_of cap (hbt.keep (show Below w2.heap.size w2 (w2.alloc (.cells #[.int .u8 172, .int .u8 2] 5)) from by go_grown)); have hs3 := lit_str (b := w2.heap.size) (w := w2.alloc (.cells #[.int .u8 172, .int .u8 2] 5)) (heap_new w2 _); clear hb ho hbt)
      | (refine (KU.out (World.drew (w1.alloc (.cells #[.int .u8 172, .int .u8 2] 5)))).mono ?_; rintro _ w2 ⟨v, rfl, ho, hb⟩; obtain ⟨A, cap, rfl, hbt, _⟩ := ho.is; have g2 := hid (below_step (g1.out.alloc g1.out.size (.cells #[.int .u8 172, .int .u8 2] 5)) (by have := g1.out.size; go_size) (unD hb)); have S2 := hid ((S1.out.keep (show Below w1.heap.size w1 (w1.alloc (.cells #[.int .u8 172, .int .u8 2] 5)) from by go_grown)).keep (unD hb)); have hs1 : (convert 22 9 (.slice A 2 cap)).run Try.prog w2 = .ok (.string ⟨#[172, 2]⟩) w2 := str_of cap hbt; have hs3 := lit_str (b := w1.heap.size) (w := w2) (newA (unD hb)); clear hb ho hbt))
    | (go_at_call 19; first
      | (refine (K19.out w2 rb S2.out).mono ?_; rintro _ w3 ⟨rfl, hs, hg⟩; have g3 := hid (Below.grown g2.out hg g2.out.size hrb'.out); have S3 := hid hs; clear hs hg)
      | (refine (K19.out (w2.alloc (.cells #[.int .u8 172, .int .u8 2] 5)) rb S2a.out).mono ?_; rintro _ w3 ⟨rfl, hs, hg⟩; have g3 := hid (Below.grown g2a.out hg g2a.out.size hrb'.out); have S3 := hid hs; clear hs hg))
    | (go_at_call 21; refine (K21.out w3 rb S3.out).mono ?_; rintro _ w4 ⟨rfl, hs, hg⟩; have g4 := hid (Below.grown g3.out hg g3.out.size hrb'.out); have S4 := hid hs; clear hs hg)
    | (go_at_call 23; refine (K23.out w4 rb S4.out).mono ?_; rintro _ w5 ⟨rfl, hs, hg⟩; have g5 := hid (Below.grown g4.out hg g4.out.size hrb'.out); have S5 := hid hs; clear hs hg)
    | (go_at_call 32; refine (K32.out w5 rb S5.out).mono ?_; rintro _ w6 ⟨rfl, hs, hg⟩; have g6 := hid (Below.grown g5.out hg g5.out.size hrb'.out); clear hs hg))
  all_goals
    go_wp2_with fail
    all_goals go_returns
    all_goals exact ⟨by first | rfl | simp, g6.out⟩
end Go.Proofs.Ytanjgobcfgmpfaa
