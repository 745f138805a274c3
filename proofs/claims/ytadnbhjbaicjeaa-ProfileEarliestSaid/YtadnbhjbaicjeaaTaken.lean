/- A profile of which the script's amounts were taken, as far as they fit; whether a span goes beyond the tick 2000. Conditions: the script stands in memory. -/
import Derived.Test.YtadnbhjbaicjeaaOpen
namespace Go.Proofs.Ytadnbhjbaicjeaa
open Go Go.RowKit
def T2k (W : V4) (f : Int → V4) : Prop := ∀ t, 2000 ≤ t → f t = W
theorem take_some (p : Nat) (W : V4) (f : Int → V4) (a c : Int) (v : V4) (w : World) (h : Pr w p W f) : Calls Try.prog 11 #[.pointer (some ⟨p, 0, none⟩), .int .i64 a, .int .i64 c, .agg #[.int .i64 v.a, .int .i64 v.b, .int .i64 v.c, .int .i64 v.d]] w fun e w' => (∃ x : Int, e = .returned (.int .i64 x)) ∧ (∃ f', Pr w' p W f' ∧ (c ≤ 2000 → T2k W f → T2k W f')) ∧ w.grownBy w' (some p) := by
  refine (take_any p W f a c v w h).mono ?_
  rintro e w' (⟨h1, h2, h3⟩ | ⟨h1, h2, h4, h3⟩ | ⟨h1, h2, h4, h3, h5⟩)
  · exact ⟨⟨_, h1⟩, ⟨f, h.keep h3, fun _ h => h⟩, gb_below h3 _⟩
  · exact ⟨⟨_, h1⟩, ⟨f, h.keep h3, fun _ h => h⟩, gb_below h3 _⟩
  · refine ⟨⟨_, h1⟩, ⟨_, h5, fun hc hf t ht => ?_⟩, h3⟩
    rw [chF_out (by omega)]
    exact hf t ht
theorem gb_step {B p : Nat} {w w1 w2 : World} (h : Below B w w1) (hb : w1.grownBy w2 (some p)) (hp : B ≤ p) (hB : B ≤ w1.heap.size) : Below B w w2 :=
  ⟨hb.os.trans h.os, hb.tape.trans h.tape, hb.output.trans h.output, Nat.le_trans h.size hb.size, fun k hk => (hb.block k (by omega) (fun e => by cases e; omega)).trans (h.block k hk)⟩
def TakenPost (w : World) (W : V4) (xs : List Ac) (e : Ending) (w' : World) : Prop := ∃ p f, e = .returned (.pointer (some ⟨p, 0, none⟩)) ∧ Pr w' p W f ∧ w.heap.size ≤ p ∧ Below w.heap.size w w' ∧ ((∀ x, x ∈ xs → x.c ≤ 2000) → T2k W f)
set_option maxHeartbeats 2000000 in
theorem taken_ok (W : V4) (hW : W.okB = true) (A : Option Addr) (cap : Nat) (xs : List Ac) (w : World) (hA : Acts w A xs) (hx : xs.length ≤ 9223372036854775807) : Calls Try.prog 8 #[.agg #[.int .i64 W.a, .int .i64 W.b, .int .i64 W.c, .int .i64 W.d], .slice A xs.length cap] w (TakenPost w W xs) := by
  have KN := hid (new_pr W hW)
  have X0 := hid (heap_new w (.cells #[.int .i64 W.a, .int .i64 W.b, .int .i64 W.c, .int .i64 W.d] 23))
  have g0 := hid (show Below w.heap.size w (w.alloc (.cells #[.int .i64 W.a, .int .i64 W.b, .int .i64 W.c, .int .i64 W.d] 23)) from by go_grown)
  have HA : Hid (∀ w1, Below w.heap.size w w1 → Acts w1 A xs) := hid fun w1 hb => hA.keep hb
  have hn : ∃ n, n = xs.length := ⟨_, rfl⟩
  obtain ⟨n, hn⟩ := hn
  rw [← hn] at hx ⊢
  have HN := hid hn
  obtain ⟨x0, x1, x2, x3⟩ := four X0.out
  clear hA hW hn
  go_enter Try.func8, Try.ntmps8
  go_wp2_with fail
  refine (KN.out _).mono ?_
  rintro _ w1 ⟨p, rfl, hp, hpl, hb⟩
  have P1 := hid hp
  have g1 := hid (below_step g0.out g0.out.size hb)
  have hpW : w.heap.size ≤ p := by have := g0.out.size; omega
  clear hp hb hpl
  go_wp2_with fail
  go_loopw [6] (fun x wr => ∃ (k : Nat) (f : Int → V4), k ≤ n ∧ x = .int .i64 k ∧ Below w.heap.size w wr ∧ Pr wr p W f ∧ ((∀ x, x ∈ xs → x.c ≤ 2000) → T2k W f)) (fun x _ => n - (intOf x).toNat)
  case atStart => exact ⟨0, _, Nat.zero_le _, rfl, g1.out, P1.out, fun _ t _ => rfl⟩
  case round =>
    clear g1 P1
    obtain ⟨k, f, hk, rfl, hg, hp, hl⟩ := hrel
    have HG := hid hg
    have HP := hid hp
    have HL := hid hl
    clear hg hp hl
    by_cases hlt : k < n
    · have hlt' : (k : Int) < (n : Int) := by omega
      by_cases h30 : k < 30
      · have h30' : (k : Int) < 30 := by omega
        obtain ⟨x, hx1⟩ : ∃ x, xs[k]? = some x := ⟨_, List.getElem?_eq_getElem (by have := HN.out; omega)⟩
        obtain ⟨⟨_, hxa, hxc, _⟩, b, off, rfl, hbl, _, c1, c2, c3, c4, c5, c6⟩ := (HA.out _ HG.out).at hx1
        have HM := hid (List.mem_of_getElem? hx1)
        have HA2 := hid (fun w1 (hb : Below w.heap.size w w1) => (show _ ∧ _ ∧ _ ∧ _ ∧ _ ∧ _ from by
          obtain ⟨_, b', off', e, _, _, d1, d2, d3, d4, d5, d6⟩ := (HA.out w1 hb).at hx1
          cases e
          exact ⟨d1, d2, d3, d4, d5, d6⟩))
        have KT := hid (take_some p W f x.a x.c x.v)
        have HPd := hid (show Pr wr.drew p W f from HP.out.keep (Below.drew (Below.refl _ _)))
        clear hx1
        go_wp2_with fail
        go_region_held3 (fun w' => w'.cell? ⟨b, off + k * 7 + 1, none⟩ = some (.int .i64 x.a) ∧ w'.cell? ⟨b, off + k * 7 + 2, none⟩ = some (.int .i64 x.c) ∧ w'.cell? ⟨b, off + k * 7 + 3, none⟩ = some (.int .i64 x.v.a) ∧ w'.cell? ⟨b, off + k * 7 + 4, none⟩ = some (.int .i64 x.v.b) ∧ w'.cell? ⟨b, off + k * 7 + 5, none⟩ = some (.int .i64 x.v.c) ∧ w'.cell? ⟨b, off + k * 7 + 6, none⟩ = some (.int .i64 x.v.d)) (first | exact ⟨c1, c2, c3, c4, c5, c6⟩ | exact ⟨d1, d2, d3, d4, d5, d6⟩ | go_keep) (first | (go_at_call 11; (with_reducible refine (KT.out _ HPd.out).mono ?_); rintro _ w5 ⟨⟨y, rfl⟩, hf, hb⟩; have F5 := hid hf; have g5 := hid (gb_step (w1 := wr) (w2 := w5) HG.out ⟨hb.os, hb.tape, hb.output, hb.size, hb.block⟩ hpW HG.out.size); obtain ⟨d1, d2, d3, d4, d5, d6⟩ := HA2.out _ g5.out; clear hf hb))
        go_wp2_with fail
        go_roundw
        case rel =>
          obtain ⟨f', hf1, hf2⟩ := F5.out
          exact ⟨k + 1, f', by omega, by go_num, g5.out, hf1, fun h => hf2 (h x HM.out) (HL.out h)⟩
        case measure => simp [intOf]; omega
      · have h30' : decide ((k : Int) < 30) = false := by simp; omega
        go_wp2_with fail
        go_returns
        exact ⟨p, f, rfl, HP.out, hpW, HG.out, HL.out⟩
    · obtain rfl : k = n := by omega
      go_wp2_with fail
      go_returns
      exact ⟨p, f, rfl, HP.out, hpW, HG.out, HL.out⟩
theorem taken_no (W : V4) (hW : W.okB = false) (sv : Value) (w : World) : Calls Try.prog 8 #[.agg #[.int .i64 W.a, .int .i64 W.b, .int .i64 W.c, .int .i64 W.d], sv] w fun e w' => e = .returned (.pointer none) ∧ Below w.heap.size w w' := by
  have KN := hid (new_no W hW)
  have X0 := hid (heap_new w (.cells #[.int .i64 W.a, .int .i64 W.b, .int .i64 W.c, .int .i64 W.d] 23))
  have g0 := hid (show Below w.heap.size w (w.alloc (.cells #[.int .i64 W.a, .int .i64 W.b, .int .i64 W.c, .int .i64 W.d] 23)) from by go_grown)
  obtain ⟨x0, x1, x2, x3⟩ := four X0.out
  clear hW
  go_enter Try.func8, Try.ntmps8
  go_wp2_with fail
  refine (KN.out _).mono ?_
  rintro _ w1 ⟨rfl, hb⟩
  have g1 := hid (below_step g0.out g0.out.size hb)
  clear hb
  go_wp2_with fail
  go_returns
  exact ⟨rfl, g1.out⟩
/-- late is true where one of the spans goes beyond; else false. -/
def lateB (xs : List Ac) : Bool := xs.any fun x => decide (2000 < x.c)
theorem lateB_iff (xs : List Ac) : lateB xs = false ↔ ∀ x, x ∈ xs → x.c ≤ 2000 := by
  unfold lateB
  rw [List.any_eq_false]
  constructor
  · intro h x hx
    have := h x hx
    simp at this
    exact this
  · intro h x hx
    have := h x hx
    simp
    exact this
theorem late_any (A : Option Addr) (cap : Nat) (xs : List Ac) (w : World) (hA : Acts w A xs) (hx : xs.length ≤ 9223372036854775807) : Calls Try.prog 17 #[.slice A xs.length cap] w fun e w' => e = .returned (.bool (lateB xs)) ∧ Below w.heap.size w w' := by
  have HA : Hid (∀ w1, Below w.heap.size w w1 → Acts w1 A xs) := hid fun w1 hb => hA.keep hb
  have hn : ∃ n, n = xs.length := ⟨_, rfl⟩
  obtain ⟨n, hn⟩ := hn
  rw [← hn] at hx ⊢
  have HN := hid hn
  clear hA hn
  go_enter Try.func17, Try.ntmps17
  go_wp2_with fail
  go_loopw [3] (fun x wr => ∃ (k : Nat), k ≤ n ∧ x = .int .i64 k ∧ Below w.heap.size w wr ∧ (∀ j y, j < k → xs[j]? = some y → y.c ≤ 2000)) (fun x _ => n - (intOf x).toNat)
  case atStart => exact ⟨0, Nat.zero_le _, rfl, Below.refl _ _, fun j y hj => by omega⟩
  case round =>
    obtain ⟨k, hk, rfl, hg, hl⟩ := hrel
    have HG := hid hg
    have HL := hid hl
    clear hg hl
    by_cases hlt : k < n
    · have hlt' : (k : Int) < (n : Int) := by omega
      obtain ⟨x, hx1⟩ : ∃ x, xs[k]? = some x := ⟨_, List.getElem?_eq_getElem (by have := HN.out; omega)⟩
      obtain ⟨_, b, off, rfl, hbl, _, c1, c2, c3, c4, c5, c6⟩ := (HA.out _ HG.out).at hx1
      have HX := hid hx1
      clear hx1
      by_cases h2 : 2000 < x.c
      · have hr : lateB xs = true := by
          unfold lateB
          rw [List.any_eq_true]
          exact ⟨x, List.mem_of_getElem? HX.out, by simpa using h2⟩
        have HR := hid hr
        clear hr
        go_wp2_with fail
        go_returns
        exact ⟨ret_bool HR.out.symm, HG.out⟩
      · have h2' : decide (2000 < x.c) = false := by simpa using h2
        go_wp2_with fail
        go_roundw
        case rel =>
          refine ⟨k + 1, by omega, by go_num, HG.out, fun j y hj hy => ?_⟩
          rcases Nat.lt_or_ge j k with h | h
          · exact HL.out j y h hy
          · obtain rfl : j = k := by omega
            rw [HX.out] at hy
            cases hy
            omega
        case measure => simp [intOf]; omega
    · obtain rfl : k = n := by omega
      have hr : lateB xs = false := by
        rw [lateB_iff]
        intro y hy
        obtain ⟨j, hj⟩ := List.getElem?_of_mem hy
        exact HL.out j y (by have := (List.getElem?_eq_some_iff.1 hj).1; have := HN.out; omega) hj
      have HR := hid hr
      clear hr
      go_wp2_with fail
      go_returns
      exact ⟨ret_bool HR.out.symm, HG.out⟩
end Go.Proofs.Ytadnbhjbaicjeaa
