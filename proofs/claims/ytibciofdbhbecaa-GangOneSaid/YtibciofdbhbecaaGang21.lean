/- The document's example of the pool: what the law's own first call answers. Conditions: none. -/
import Derived.Test.YtibciofdbhbecaaGang20
namespace Go.Proofs.Ytibciofdbhbecaa
open Go Go.RowKit
instance decLe (x y : V4) : Decidable (x.le y) := by unfold V4.le; exact inferInstance
theorem gang_one {n : Nat} {x : Int} (h : 0 ≤ x ∧ x < (n : Int)) : Gang n [x] := by
  refine ⟨by simp, fun i y hy => ?_, fun i y z hy hz => ?_⟩
  · match i, hy with
    | 0, hy => simp at hy; omega
    | i + 1, hy => simp at hy
  · match i, hy, hz with
    | 0, _, hz => simp at hz
    | i + 1, hy, _ => simp at hy
theorem gang_two {n : Nat} {x y : Int} (h : 0 ≤ x ∧ x < y ∧ y < (n : Int)) : Gang n [x, y] := by
  refine ⟨by simp, fun i z hz => ?_, fun i z u hz hu => ?_⟩
  · match i, hz with
    | 0, hz => simp at hz; omega
    | 1, hz => simp at hz; omega
    | i + 2, hz => simp at hz
  · match i, hz, hu with
    | 0, hz, hu => simp at hz hu; omega
    | 1, _, hu => simp at hu
    | i + 2, hz, _ => simp at hz
theorem Ns.lit {w : World} {b : Nat} {cs : Array Value} {t : TypeId} {fr : Nat × Nat} {xs : List Int} (h : w.heap[b]? = some (.cells cs t fr)) (hc : ∀ (i : Nat) x, xs[i]? = some x → cs[i]? = some (.int .i64 x)) : Ns w (some ⟨b, 0, none⟩) xs :=
  .inr ⟨b, 0, rfl, lt_of h, fun i x hx => by rw [Nat.zero_add, cell_of h i]; exact hc i x hx⟩
theorem Ns.lit1 {w : World} {x : Int} : Ns (w.alloc (.cells #[.int .i64 x] 3)) (some ⟨w.heap.size, 0, none⟩) [x] := Ns.lit (heap_new w _) fun i y hy => by
  match i, hy with
  | 0, hy => simp at hy; simp [hy]
  | i + 1, hy => simp at hy
theorem Ns.lit2 {w : World} {x y : Int} : Ns (w.alloc (.cells #[.int .i64 x, .int .i64 y] 3)) (some ⟨w.heap.size, 0, none⟩) [x, y] := Ns.lit (heap_new w _) fun i z hz => by
  match i, hz with
  | 0, hz => simp at hz; simp [hz]
  | 1, hz => simp at hz; simp [hz]
  | i + 2, hz => simp at hz
def gW : Nat → V4 := fun i => ([⟨2, 0, 0, 0⟩, ⟨2, 0, 0, 0⟩] : List V4).getD i V4.z
def gF : Nat → Int → V4 := fun i _ => ([⟨2, 0, 0, 0⟩, ⟨2, 0, 0, 0⟩] : List V4).getD i V4.z
noncomputable def gF1 : Nat → Int → V4 := fsT gF [0] 0 4 ⟨1, 0, 0, 0⟩ 1
theorem gF1_one (t : Int) : gF1 1 t = ⟨2, 0, 0, 0⟩ := by
  unfold gF1 fsT
  rw [if_neg (by decide)]
  rfl
theorem gF1_in {t : Int} (h : 0 ≤ t) (k : t < 4) : gF1 0 t = ⟨1, 0, 0, 0⟩ := by
  unfold gF1 fsT
  rw [if_pos (by decide), chF_in h k]
  rfl
theorem gF1_out {t : Int} (h : t < 0 ∨ 4 ≤ t) : gF1 0 t = ⟨2, 0, 0, 0⟩ := by
  unfold gF1 fsT
  rw [if_pos (by decide), chF_out h]
  rfl
theorem aw_new (w : World) (b : Nat) (t : TypeId) (hb : w.heap[b]? = some (.cells #[.int .i64 2, .int .i64 0, .int .i64 0, .int .i64 0, .int .i64 2, .int .i64 0, .int .i64 0, .int .i64 0] t (0, 0))) :
    Calls Try.prog 10 #[.slice (some ⟨b, 0, none⟩) 2 2] w fun e w' => ∃ q sv ps, e = .returned (.pointer (some ⟨q, 0, none⟩)) ∧ PL w' q sv 2 ps gW gF ∧ (∀ i, i < 2 → w.heap.size ≤ ps i) ∧ Below w.heap.size w w' := by
  have hV : Vs w (some ⟨b, 0, none⟩) [⟨2, 0, 0, 0⟩, ⟨2, 0, 0, 0⟩] := .inr ⟨b, 0, rfl, lt_of hb, fun i x hx => by
    match i, hx with
    | 0, hx => cases hx; exact ⟨cell_of hb 0, cell_of hb 1, cell_of hb 2, cell_of hb 3⟩
    | 1, hx => cases hx; exact ⟨cell_of hb 4, cell_of hb 5, cell_of hb 6, cell_of hb 7⟩
    | i + 2, hx => simp at hx⟩
  refine (gnew_any _ 2 [⟨2, 0, 0, 0⟩, ⟨2, 0, 0, 0⟩] w hV (by decide)).mono ?_
  rintro e w' ⟨hb, ⟨_, h | ⟨x, hx, h⟩⟩ | ⟨q, sv, ps, rfl, _, hp, _, hps⟩⟩
  · simp at h
  · have : x = ⟨2, 0, 0, 0⟩ := by simpa using hx
    rw [this] at h
    cases h
  · exact ⟨q, sv, ps, rfl, hp, hps, hb⟩
theorem aw_take (q : Nat) (sv : Value) (ps : Nat → Nat) (w : World) (h : PL w q sv 2 ps gW gF) : Calls Try.prog 19 #[.pointer (some ⟨q, 0, none⟩), .slice (some ⟨w.heap.size, 0, none⟩) 1 1, .int .i64 0, .int .i64 4, .agg #[.int .i64 1, .int .i64 0, .int .i64 0, .int .i64 0]] (w.alloc (.cells #[.int .i64 0] 3)) fun e w' => e = .returned (.int .i64 0) ∧ PL w' q sv 2 ps gW gF1 ∧ FrP w w' 2 ps := by
  have hb : Below w.heap.size w (w.alloc (.cells #[.int .i64 0] 3)) := (Below.refl _ _).alloc (Nat.le_refl _) _
  refine (take_all q sv 2 ps gW gF (some ⟨w.heap.size, 0, none⟩) 1 [0] 0 4 ⟨1, 0, 0, 0⟩ _ (h.keep hb) Ns.lit1 (by decide) (Apart.new h (Nat.le_refl _))).mono ?_
  rintro e w' ⟨x, fs', rfl, hp, hf, ⟨_, h1, _⟩ | ⟨_, _, ⟨i, hi, h2⟩, _⟩ | ⟨rfl, _, _, rfl⟩⟩
  · rcases h1 with h1 | h1 | h1
    · rw [(gangB_iff _ _).2 (gang_one (by omega))] at h1
      cases h1
    · simp [spanB] at h1
    · simp [V4.okB] at h1
  · have : i = 0 := by simpa using hi
    subst this
    rw [(opB_iff _ _ _ _).2 (fun t _ _ => by show V4.le _ (gF 0 t); exact (by decide : V4.le ⟨1, 0, 0, 0⟩ ⟨2, 0, 0, 0⟩))] at h2
    cases h2
  · exact ⟨rfl, hp, (FrP.of 2 ps hb).trans hf⟩
theorem aw_op1 (t : Int) : opB (gF1 1) ⟨2, 0, 0, 0⟩ t (t + 3) = true := (opB_iff _ _ _ _).2 fun u _ _ => by
  rw [gF1_one]
  decide
theorem aw_op0 {t : Int} (h : 4 ≤ t) : opB (gF1 0) ⟨2, 0, 0, 0⟩ t (t + 3) = true := (opB_iff _ _ _ _).2 fun u u1 _ => by
  rw [gF1_out (by omega)]
  decide
theorem aw_op0_no {t : Int} (h : 0 ≤ t) (k : t < 4) : opB (gF1 0) ⟨2, 0, 0, 0⟩ t (t + 3) = false := by
  cases hb : opB (gF1 0) ⟨2, 0, 0, 0⟩ t (t + 3)
  · rfl
  · have := (opB_iff _ _ _ _).1 hb t (Int.le_refl _) (by omega)
    rw [gF1_in h k] at this
    exact absurd this (by decide)
theorem aw_open (xs : List Int) (hx : cntL 2 xs 16 = [0, 1]) (t : Int) : openL 2 gF1 xs t (t + 3) ⟨2, 0, 0, 0⟩ = if opB (gF1 0) ⟨2, 0, 0, 0⟩ t (t + 3) = true then [0, 1] else [1] := by
  unfold openL
  rw [hx]
  have h1 := aw_op1 t
  cases hb : opB (gF1 0) ⟨2, 0, 0, 0⟩ t (t + 3)
  · rw [List.filter_cons_of_neg (by simp [hb]), List.filter_cons_of_pos (by simpa using h1)]
    rfl
  · rw [List.filter_cons_of_pos (by simpa using hb), List.filter_cons_of_pos (by simpa using h1)]
    rfl
theorem aw_find1 (q : Nat) (sv : Value) (ps : Nat → Nat) (w : World) (h : PL w q sv 2 ps gW gF1) : Calls Try.prog 17 #[.pointer (some ⟨q, 0, none⟩), .slice (some ⟨w.heap.size, 0, none⟩) 2 2, .int .i64 2, .agg #[.int .i64 2, .int .i64 0, .int .i64 0, .int .i64 0], .int .i64 3, .int .i64 0] (w.alloc (.cells #[.int .i64 0, .int .i64 1] 3)) fun e w' => (∃ S c, e = .returned (.tuple #[.int .i64 4, .slice S 2 c, .bool true])) ∧ Below w.heap.size w w' := by
  have hb : Below w.heap.size w (w.alloc (.cells #[.int .i64 0, .int .i64 1] 3)) := (Below.refl _ _).alloc (Nat.le_refl _) _
  have hcn : cntL 2 [0, 1] 16 = [0, 1] := by decide
  have hF : FindAt 2 gF1 [0, 1] ⟨2, 0, 0, 0⟩ 0 3 2 4 := by
    refine ⟨by omega, by omega, ?_, fun u u1 u2 => ?_⟩
    · rw [aw_open _ hcn, if_pos (aw_op0 (by omega))]
      decide
    · rw [aw_open _ hcn, if_neg (by rw [aw_op0_no (by omega) u2]; decide)]
      decide
  refine (find_all q sv 2 ps gW gF1 (some ⟨w.heap.size, 0, none⟩) 2 [0, 1] 2 3 0 ⟨2, 0, 0, 0⟩ _ (h.keep hb) Ns.lit2 (by decide) (by omega) (by omega)).mono ?_
  rintro e w' ⟨hw, ⟨t, v', rfl, ⟨_, _, _, h1⟩, ho⟩ | ⟨_, h1⟩⟩
  · obtain rfl : t = 4 := h1.uniq hF
    obtain ⟨S, c, rfl⟩ := slice_of ho
    exact ⟨⟨S, c, rfl⟩, hb.trans (hw.mono hb.size)⟩
  · exact absurd ⟨by omega, by omega, rfl, hF⟩ (h1 4)
theorem aw_find2 (q : Nat) (sv : Value) (ps : Nat → Nat) (w : World) (h : PL w q sv 2 ps gW gF1) : Calls Try.prog 17 #[.pointer (some ⟨q, 0, none⟩), .slice (some ⟨w.heap.size, 0, none⟩) 2 2, .int .i64 1, .agg #[.int .i64 2, .int .i64 0, .int .i64 0, .int .i64 0], .int .i64 3, .int .i64 0] (w.alloc (.cells #[.int .i64 1, .int .i64 0] 3)) fun e w' => (∃ b c, e = .returned (.tuple #[.int .i64 0, .slice (some ⟨b, 0, none⟩) 1 c, .bool true]) ∧ w'.cell? ⟨b, 0, none⟩ = some (.int .i64 1)) ∧ Below w.heap.size w w' := by
  have hb : Below w.heap.size w (w.alloc (.cells #[.int .i64 1, .int .i64 0] 3)) := (Below.refl _ _).alloc (Nat.le_refl _) _
  have hcn : cntL 2 [1, 0] 16 = [0, 1] := by decide
  have hF : FindAt 2 gF1 [1, 0] ⟨2, 0, 0, 0⟩ 0 3 1 0 := by
    refine ⟨by omega, by omega, ?_, fun u u1 u2 => by omega⟩
    rw [aw_open _ hcn]
    split <;> decide
  refine (find_all q sv 2 ps gW gF1 (some ⟨w.heap.size, 0, none⟩) 2 [1, 0] 1 3 0 ⟨2, 0, 0, 0⟩ _ (h.keep hb) Ns.lit2 (by decide) (by omega) (by omega)).mono ?_
  rintro e w' ⟨hw, ⟨t, v', rfl, ⟨_, _, _, h1⟩, ho⟩ | ⟨_, h1⟩⟩
  · obtain rfl : t = 0 := h1.uniq hF
    rw [aw_open _ hcn, if_neg (by rw [aw_op0_no (by omega) (by omega)]; decide)] at ho
    obtain ⟨b, c, rfl, _, hn⟩ := Nl.of_row (l := [1]) ho (by simp)
    refine ⟨⟨b, c, rfl, ?_⟩, hb.trans (hw.mono hb.size)⟩
    obtain ⟨cs, k1, _, _, _, k5⟩ := hn
    exact (cell_of k1 0).trans (k5 0 1 rfl)
  · exact absurd ⟨by omega, by omega, rfl, hF⟩ (h1 0)
set_option maxRecDepth 100000 in
set_option maxHeartbeats 2000000 in
theorem awake_any (w : World) : Calls Try.prog 9 #[] w fun e w' => e = .returned (.bool true) ∧ Below w.heap.size w w' := by
  have KN := hid aw_new
  have KT := hid aw_take
  have K1 := hid aw_find1
  have K2 := hid aw_find2
  go_enter Try.func9, Try.ntmps9
  go_wp2_with fail
  refine (KN.out _ _ _ (heap_new w _)).mono ?_
  rintro _ w1 ⟨q, sv, ps, rfl, hp, hps, hb⟩
  have P1 := hid hp
  have g1 := hid (show Below w.heap.size w w1 from ((Below.refl _ _).alloc (Nat.le_refl _) _).trans (hb.mono (by simp)))
  have HPS := hid (show ∀ i, i < 2 → w.heap.size ≤ ps i from fun i hi => by
    have := hps i hi
    simp at this
    omega)
  clear hp hb hps KN
  go_wp2_with fail
  refine (KT.out q sv ps _ P1.out).mono ?_
  rintro _ w2 ⟨rfl, hp, hf⟩
  have P2 := hid hp
  have g2 := hid (FrP.below g1.out hf HPS.out)
  clear hp hf KT P1
  go_wp2_with fail
  refine (K1.out q sv ps _ P2.out).mono ?_
  rintro _ w3 ⟨⟨S, c3, rfl⟩, hb⟩
  have P3 := hid (P2.out.keep hb)
  have g3 := hid (below_step g2.out g2.out.size hb)
  clear hb K1
  go_wp2_with fail
  refine (K2.out q sv ps _ P3.out).mono ?_
  rintro _ w4 ⟨⟨b4, c4, rfl, x4⟩, hb⟩
  have g4 := hid (below_step g3.out g3.out.size hb)
  clear hb K2
  go_wp2_with fail
  go_returns
  exact ⟨rfl, g4.out⟩
end Go.Proofs.Ytibciofdbhbecaa
