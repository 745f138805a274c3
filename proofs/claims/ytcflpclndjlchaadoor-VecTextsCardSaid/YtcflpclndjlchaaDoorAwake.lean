/- The statements' own example: true. And: an amount that comes in by value is four numbers of 64 bits. Condition: none. -/
import Derived.Test.YtcflpclndjlchaaDoorTimes
import Derived.Test.YtcflpclndjlchaaDoorText
import Derived.ProofKit
import Derived.OpenShut
namespace Go.Proofs.YtcflpclndjlchaaDoor
open Go Go.ChangeShapes Go.WideShapes Go.RowKit
theorem wf_le {n : Int} (h : (Lit.int .i64 n).wf = true) : -9223372036854775808 ≤ n ∧ n ≤ 9223372036854775807 := by
  simpa [Lit.wf, IntKind.min, IntKind.max, IntKind.signed, IntKind.bits] using h
theorem okWide_array {P : Program} {w : World} {r : Reach} {base n : Nat} {t e : TypeId} {v : Value} (ht : P.underlying t = some (.array n e)) (h : Value.okWide P w r base t v) : ∃ cs, v = .agg cs ∧ cs.size = P.cellsOf t := by
  simp only [Value.okWide, ht] at h
  obtain ⟨cs, h1, h2, _⟩ := h
  exact ⟨cs, h1, h2⟩
theorem vec_is {H : Type} {enc : TypeId × Value → H} {W : World} {base : Nat} {v : Value} {d : DataW H} {p : List MemPlace}
    (hv : Value.okWide Tryd.prog W .any base 23 v) (h : DataW.Trod enc Tryd.prog W 0 (fun _ => true) true 23 v d p) :
    ∃ N : Nat → Int, v = .agg #[.int .i64 (N 0), .int .i64 (N 1), .int .i64 (N 2), .int .i64 (N 3)] ∧ ∀ i, N i ≤ 9223372036854775807 ∧ -9223372036854775808 ≤ N i := by
  obtain ⟨cs, rfl, hn⟩ := okWide_array Tryd.underlying23 hv
  have hc : Tryd.prog.cellsOf 23 = 4 := by kernel_rfl
  rw [hc] at hn
  obtain ⟨fuel, hf⟩ := h
  obtain ⟨xs, m, _, _, _, hx, hfield⟩ := DataW.trod_array Tryd.underlying23 hf
  have c3 : Tryd.prog.cellsOf 3 = 1 := by kernel_rfl
  obtain ⟨l⟩ := cs
  match l, hn with
  | [x0, x1, x2, x3], _ =>
    have key : ∀ i (x : Value), i < 4 → ([x0, x1, x2, x3].drop (i * 1)).take 1 = [x] → ∃ n : Int, x = .int .i64 n ∧ n ≤ 9223372036854775807 ∧ -9223372036854775808 ≤ n := by
      intro i x hi hx'
      have hf' := hfield i hi
      rw [c3] at hf'
      simp only [Value.cells] at hf'
      obtain ⟨y, hy⟩ : ∃ y, xs[i]? = some y := ⟨_, List.getElem?_eq_getElem (by rw [hx]; exact hi)⟩
      rw [hy, hx'] at hf'
      obtain ⟨n, e0, _, w0⟩ := DataW.trod_int Tryd.underlying3 hf'
      simp only [List.cons.injEq, and_true] at e0
      exact ⟨n, e0, (wf_le w0).2, (wf_le w0).1⟩
    obtain ⟨n0, rfl, a0, b0⟩ := key 0 x0 (by decide) rfl
    obtain ⟨n1, rfl, a1, b1⟩ := key 1 x1 (by decide) rfl
    obtain ⟨n2, rfl, a2, b2⟩ := key 2 x2 (by decide) rfl
    obtain ⟨n3, rfl, a3, b3⟩ := key 3 x3 (by decide) rfl
    refine ⟨fun i => match i with | 0 => n0 | 1 => n1 | 2 => n2 | _ => n3, rfl, fun i => ?_⟩
    match i with
    | 0 => exact ⟨a0, b0⟩
    | 1 => exact ⟨a1, b1⟩
    | 2 => exact ⟨a2, b2⟩
    | _ + 3 => exact ⟨a3, b3⟩
def x1 : Nat → Int := fun i => match i with | 0 => 1 | 2 => 2 | _ => 0
def x2 : Nat → Int := fun i => match i with | 0 => 1 | 1 => 5 | _ => 0
def x3 : Nat → Int := fun i => match i with | 0 => 1 | _ => 0
def x4 : Nat → Int := fun i => match i with | 1 => 1 | _ => 0
def x5 : Nat → Int := fun i => match i with | 0 => 2 | 1 => 5 | 2 => 2 | _ => 0
def x6 : Nat → Nat := fun i => match i with | 0 => 2 | 1 => 5 | 2 => 2 | _ => 0
theorem ex_add (w : World) : Calls Tryd.prog 10 #[.agg #[.int .i64 1, .int .i64 0, .int .i64 2, .int .i64 0], .agg #[.int .i64 1, .int .i64 5, .int .i64 0, .int .i64 0]] w fun e w' => e = .returned (.tuple #[.agg #[.int .i64 2, .int .i64 5, .int .i64 2, .int .i64 0], .int .i64 0]) ∧ Below w.heap.size w w' := by
  have h := add_any x1 x2 w
  rw [show (addF x1 x2).1 0 = 2 by decide, show (addF x1 x2).1 1 = 5 by decide, show (addF x1 x2).1 2 = 2 by decide, show (addF x1 x2).1 3 = 0 by decide, show (addF x1 x2).2 = 0 by decide] at h
  exact h
theorem ex_sub (w : World) : Calls Tryd.prog 12 #[.agg #[.int .i64 1, .int .i64 0, .int .i64 0, .int .i64 0], .agg #[.int .i64 0, .int .i64 1, .int .i64 0, .int .i64 0]] w fun e w' => e = .returned (.tuple #[.agg #[.int .i64 0, .int .i64 0, .int .i64 0, .int .i64 0], .int .i64 31]) ∧ Below w.heap.size w w' := by
  have h := sub_any x3 x4 w
  rw [show (subF x3 x4).1 0 = 0 by decide, show (subF x3 x4).1 1 = 0 by decide, show (subF x3 x4).1 2 = 0 by decide, show (subF x3 x4).1 3 = 0 by decide, show (subF x3 x4).2 = 31 by decide] at h
  exact h
theorem ex_right (w : World) : Calls Tryd.prog 16 #[.agg #[.int .i64 2, .int .i64 5, .int .i64 2, .int .i64 0]] w fun e w' => e = .returned (.bool true) ∧ Below w.heap.size w w' :=
  right_is (M := x5) (by decide) w
theorem ex_join : joinS (fun i => ⟨(Lib.decDigits (x6 i)).toArray⟩) = [50, 44, 53, 44, 50, 44, 48] := by
  simp [joinS, Lib.join, x6, Lib.decDigits, List.intercalate]
theorem ex_text (w : World) : Calls Tryd.prog 24 #[.agg #[.int .i64 2, .int .i64 5, .int .i64 2, .int .i64 0]] w fun e w' => e = .returned (.string ⟨#[50, 44, 53, 44, 50, 44, 48]⟩) ∧ Below w.heap.size w w' := by
  have h := text_any (fun i => ((x6 i : Nat) : Int)) (fun i => ⟨(Lib.decDigits (x6 i)).toArray⟩) w (hid fun i W hi _ => (Tryd.strconv_Itoa_small (x6 i) (by rcases (by omega : i = 0 ∨ i = 1 ∨ i = 2 ∨ i = 3) with rfl | rfl | rfl | rfl <;> decide) W).mono fun e w' ⟨h1, h2⟩ => ⟨h1, by rw [h2]; exact Below.refl _ _⟩) (by rw [ex_join]; decide)
  rw [ex_join] at h
  exact h
theorem awake_any (w : World) : Calls Tryd.prog 9 #[] w fun e w' => e = .returned (.bool true) ∧ Below w.heap.size w w' := by
  have hE := eq_vec
  have hq : eq4 2 5 2 0 2 5 2 0 = true := by decide
  go_enter Tryd.func9, Tryd.ntmps9
  go_wp2_with fail
  refine (ex_add _).mono ?_
  rintro _ w1 ⟨rfl, hb⟩
  have g1 := hid hb
  clear hb
  go_wp2_with fail
  refine (ex_sub _).mono ?_
  rintro _ w2 ⟨rfl, hb⟩
  have g2 := hid ((below_step (g1.out.alloc g1.out.size (.cells #[.int .i64 2, .int .i64 5, .int .i64 2, .int .i64 0] 23)) (by have := g1.out.size; go_size) hb).alloc (by have := g1.out.size; have := hb.size; simp at this; omega) (.cells #[.int .i64 0, .int .i64 0, .int .i64 0, .int .i64 0] 23))
  have X2 := hid (heapA (o := .cells #[.int .i64 0, .int .i64 0, .int .i64 0, .int .i64 0] 23) (newA hb))
  clear hb
  obtain ⟨c0, c1, c2, c3⟩ := four X2.out
  go_wp2_with fail
  refine (ex_right _).mono ?_
  rintro _ w3 ⟨rfl, hb⟩
  have g3 := hid (below_step g2.out g2.out.size hb)
  have X3 := hid (keep0 hb X2.out)
  clear hb c0 c1 c2 c3
  obtain ⟨c0, c1, c2, c3⟩ := four X3.out
  go_wp2_with fail
  refine (ex_text _).mono ?_
  rintro _ w4 ⟨rfl, hb⟩
  have g4 := hid (below_step g3.out g3.out.size hb)
  clear hb
  go_wp2_with fail
  all_goals go_returns
  all_goals exact ⟨rfl, g4.out⟩
end Go.Proofs.YtcflpclndjlchaaDoor
