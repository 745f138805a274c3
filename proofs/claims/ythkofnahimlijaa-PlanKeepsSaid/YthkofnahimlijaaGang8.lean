/- gang's New, Free, of any pool. Conditions: what came in stands in memory. -/
import Derived.Test.YthkofnahimlijaaGang7
namespace Go.Proofs.Ythkofnahimlijaa
open Go Go.RowKit
/-- What Take and Give answer where they refuse what is handed in. -/
def badG (n : Nat) (xs : List Int) (a c : Int) (v : V4) : Prop := gangB n xs = false ∨ spanB a c = false ∨ v.okB = false
def GangK (q : Value) (n : Nat) (av : Value) (xs : List Int) (w : World) : Prop := ∀ w1, Below w.heap.size w w1 → Calls Try.prog 32 #[q, av] w1 fun e w' => e = .returned (.bool (gangB n xs)) ∧ w1 = w'
theorem gangK_any (q : Nat) (sv : Value) (n : Nat) (ps : Nat → Nat) (Ws : Nat → V4) (fs : Nat → Int → V4) (A : Option Addr) (cap : Nat) (xs : List Int) (w : World) (h : PL w q sv n ps Ws fs) (hN : Ns w A xs) (hl : xs.length ≤ 9223372036854775807) : GangK (.pointer (some ⟨q, 0, none⟩)) n (.slice A xs.length cap) xs w := fun w1 hb => gang_any q sv n ps Ws fs A cap xs w1 (h.keep hb) (hN.keep hb) hl
theorem gang_zero (xs : List Int) : gangB 0 xs = false := gangB_no fun h => by
  obtain ⟨h1, h2, _⟩ := h
  cases xs with
  | nil => exact h1 rfl
  | cons x xs =>
    have := h2 0 x rfl
    omega
theorem gangK_nil (av : Value) (xs : List Int) (w : World) : GangK (.pointer none) 0 av xs w := fun w1 _ => by
  rw [gang_zero]
  exact gang_nil av w1
set_option maxRecDepth 100000 in
theorem gtake_bad (po : Option Addr) (n : Nat) (av : Value) (xs : List Int) (a c : Int) (v : V4) (w : World) (hg : GangK (.pointer po) n av xs w) (hb : badG n xs a c v) : Calls Try.prog 16 #[.pointer po, av, .int .i64 a, .int .i64 c, .agg #[.int .i64 v.a, .int .i64 v.b, .int .i64 v.c, .int .i64 v.d]] w fun e w' => e = .returned (.int .i64 1) ∧ Below w.heap.size w w' := by
  have V0 := hid (heap_new w (.cells #[.int .i64 v.a, .int .i64 v.b, .int .i64 v.c, .int .i64 v.d] 40))
  have g0 := hid (show Below w.heap.size w (w.alloc (.cells #[.int .i64 v.a, .int .i64 v.b, .int .i64 v.c, .int .i64 v.d] 40)) from by go_grown)
  have KG := hid (hg _ g0.out)
  have KS := hid (gspan_any a c)
  have KR := hid (right4 v)
  obtain ⟨v0, v1, v2, v3⟩ := four V0.out
  have h3 : gangB n xs = false ∨ (gangB n xs = true ∧ spanB a c = false) ∨ (gangB n xs = true ∧ spanB a c = true ∧ v.okB = false) := by
    rcases hb with hb | hb | hb
    · exact .inl hb
    · cases hg1 : gangB n xs
      · exact .inl rfl
      · exact .inr (.inl ⟨rfl, hb⟩)
    · cases hg1 : gangB n xs
      · exact .inl rfl
      · cases hs1 : spanB a c
        · exact .inr (.inl ⟨rfl, rfl⟩)
        · exact .inr (.inr ⟨rfl, rfl, hb⟩)
  clear hb hg
  rcases h3 with h1 | ⟨h1, h2⟩ | ⟨h1, h2, h3⟩
  · rw [h1] at KG
    clear h1
    go_enter Try.func16, Try.ntmps16
    go_wp2_with (go_at_call 32; (with_reducible refine KG.out.mono ?_); rintro _ w2 ⟨rfl, rfl⟩)
    go_returns
    exact ⟨rfl, g0.out⟩
  · rw [h1] at KG
    rw [h2] at KS
    clear h1 h2
    go_enter Try.func16, Try.ntmps16
    go_wp2_with (first
      | (go_at_call 32; (with_reducible refine KG.out.mono ?_); rintro _ w2 ⟨rfl, rfl⟩)
      | (go_at_call 33; (with_reducible refine (KS.out _).mono ?_); rintro _ w2 ⟨rfl, rfl⟩))
    go_returns
    exact ⟨rfl, g0.out⟩
  · rw [h1] at KG
    rw [h2] at KS
    rw [h3] at KR
    clear h1 h2 h3
    go_enter Try.func16, Try.ntmps16
    go_wp2_with (first
      | (go_at_call 32; (with_reducible refine KG.out.mono ?_); rintro _ w2 ⟨rfl, rfl⟩)
      | (go_at_call 33; (with_reducible refine (KS.out _).mono ?_); rintro _ w2 ⟨rfl, rfl⟩)
      | (go_at_call 34; (with_reducible refine (KR.out _).mono ?_); rintro _ w3 ⟨rfl, hb⟩; have g3 := hid (below_step g0.out g0.out.size hb); clear hb))
    go_returns
    exact ⟨rfl, g3.out⟩
set_option maxRecDepth 100000 in
theorem ggive_bad (po : Option Addr) (n : Nat) (av : Value) (xs : List Int) (a c : Int) (v : V4) (w : World) (hg : GangK (.pointer po) n av xs w) (hb : badG n xs a c v) : Calls Try.prog 20 #[.pointer po, av, .int .i64 a, .int .i64 c, .agg #[.int .i64 v.a, .int .i64 v.b, .int .i64 v.c, .int .i64 v.d]] w fun e w' => e = .returned (.int .i64 1) ∧ Below w.heap.size w w' := by
  have V0 := hid (heap_new w (.cells #[.int .i64 v.a, .int .i64 v.b, .int .i64 v.c, .int .i64 v.d] 40))
  have g0 := hid (show Below w.heap.size w (w.alloc (.cells #[.int .i64 v.a, .int .i64 v.b, .int .i64 v.c, .int .i64 v.d] 40)) from by go_grown)
  have KG := hid (hg _ g0.out)
  have KS := hid (gspan_any a c)
  have KR := hid (right4 v)
  obtain ⟨v0, v1, v2, v3⟩ := four V0.out
  have h3 : gangB n xs = false ∨ (gangB n xs = true ∧ spanB a c = false) ∨ (gangB n xs = true ∧ spanB a c = true ∧ v.okB = false) := by
    rcases hb with hb | hb | hb
    · exact .inl hb
    · cases hg1 : gangB n xs
      · exact .inl rfl
      · exact .inr (.inl ⟨rfl, hb⟩)
    · cases hg1 : gangB n xs
      · exact .inl rfl
      · cases hs1 : spanB a c
        · exact .inr (.inl ⟨rfl, rfl⟩)
        · exact .inr (.inr ⟨rfl, rfl, hb⟩)
  clear hb hg
  rcases h3 with h1 | ⟨h1, h2⟩ | ⟨h1, h2, h3⟩
  · rw [h1] at KG
    clear h1
    go_enter Try.func20, Try.ntmps20
    go_wp2_with (go_at_call 32; (with_reducible refine KG.out.mono ?_); rintro _ w2 ⟨rfl, rfl⟩)
    go_returns
    exact ⟨rfl, g0.out⟩
  · rw [h1] at KG
    rw [h2] at KS
    clear h1 h2
    go_enter Try.func20, Try.ntmps20
    go_wp2_with (first
      | (go_at_call 32; (with_reducible refine KG.out.mono ?_); rintro _ w2 ⟨rfl, rfl⟩)
      | (go_at_call 33; (with_reducible refine (KS.out _).mono ?_); rintro _ w2 ⟨rfl, rfl⟩))
    go_returns
    exact ⟨rfl, g0.out⟩
  · rw [h1] at KG
    rw [h2] at KS
    rw [h3] at KR
    clear h1 h2 h3
    go_enter Try.func20, Try.ntmps20
    go_wp2_with (first
      | (go_at_call 32; (with_reducible refine KG.out.mono ?_); rintro _ w2 ⟨rfl, rfl⟩)
      | (go_at_call 33; (with_reducible refine (KS.out _).mono ?_); rintro _ w2 ⟨rfl, rfl⟩)
      | (go_at_call 34; (with_reducible refine (KR.out _).mono ?_); rintro _ w3 ⟨rfl, hb⟩; have g3 := hid (below_step g0.out g0.out.size hb); clear hb))
    go_returns
    exact ⟨rfl, g3.out⟩
end Go.Proofs.Ythkofnahimlijaa
