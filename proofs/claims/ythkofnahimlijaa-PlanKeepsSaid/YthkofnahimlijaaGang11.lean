/- gang's Take of a gang that may be: the walk. Conditions: the pool and the numbers stand in memory, apart from one another. -/
import Derived.Test.YthkofnahimlijaaGang10
namespace Go.Proofs.Ythkofnahimlijaa
open Go Go.RowKit
/-- All that was there but the profiles' own blocks stays. -/
structure FrP (w w' : World) (n : Nat) (ps : Nat → Nat) : Prop where
  os : w'.os = w.os
  tape : w'.tape = w.tape
  output : w'.output = w.output
  size : w.heap.size ≤ w'.heap.size
  block : ∀ k, k < w.heap.size → (∀ i, i < n → k ≠ ps i) → w'.heap[k]? = w.heap[k]?
theorem FrP.of {w w' : World} (n : Nat) (ps : Nat → Nat) (h : Below w.heap.size w w') : FrP w w' n ps := ⟨h.os, h.tape, h.output, h.size, fun k hk _ => h.block k hk⟩
theorem FrP.then {w w1 w' : World} {n : Nat} {ps : Nat → Nat} {i : Nat} (h : FrP w w1 n ps) (hb : w1.grownBy w' (some (ps i))) (hi : i < n) : FrP w w' n ps :=
  ⟨hb.os.trans h.os, hb.tape.trans h.tape, hb.output.trans h.output, Nat.le_trans h.size hb.size, fun k hk hn => (hb.block k (by have := h.size; omega) (fun e => hn i hi (by cases e; rfl))).trans (h.block k hk hn)⟩
theorem FrP.trans {w w1 w' : World} {n : Nat} {ps : Nat → Nat} (h : FrP w w1 n ps) (hb : FrP w1 w' n ps) : FrP w w' n ps :=
  ⟨hb.os.trans h.os, hb.tape.trans h.tape, hb.output.trans h.output, Nat.le_trans h.size hb.size, fun k hk hn => (hb.block k (by have := h.size; omega) hn).trans (h.block k hk hn)⟩
/-- The numbers lie apart from the profiles. -/
def Apart (A : Option Addr) (n : Nat) (ps : Nat → Nat) : Prop := ∀ a, A = some a → ∀ i, i < n → a.block ≠ ps i
theorem Ns.fr {w w' : World} {A : Option Addr} {xs : List Int} {n : Nat} {ps : Nat → Nat} (h : Ns w A xs) (hb : FrP w w' n ps) (ha : Apart A n ps) : Ns w' A xs := by
  rcases h with e | ⟨b, off, rfl, hlt, hc⟩
  · exact .inl e
  · refine .inr ⟨b, off, rfl, Nat.lt_of_lt_of_le hlt hb.size, fun i x hx => ?_⟩
    rw [World.cell?_of_block (hb.block b hlt (ha _ rfl))]
    exact hc i x hx
def GTakePost (w : World) (q : Nat) (sv : Value) (n : Nat) (ps : Nat → Nat) (Ws : Nat → V4) (fs : Nat → Int → V4) (xs : List Int) (a c : Int) (v : V4) (e : Ending) (w' : World) : Prop :=
  (e = .returned (.int .i64 60) ∧ (∃ i : Nat, (i : Int) ∈ xs ∧ opB (fs i) v a c = false) ∧ Below w.heap.size w w') ∨
  (e = .returned (.int .i64 0) ∧ (∀ i : Nat, (i : Int) ∈ xs → opB (fs i) v a c = true) ∧ PL w' q sv n ps Ws (fsT fs xs a c v xs.length) ∧ FrP w w' n ps)
/-- Take of what is free. -/
theorem take_free (p : Nat) (W : V4) (f : Int → V4) (a c : Int) (v : V4) (w : World) (h : Pr w p W f) (hs : spanB a c = true) (hv : v.okB = true) (ho : opB f v a c = true) : Calls Try.prog 36 #[.pointer (some ⟨p, 0, none⟩), .int .i64 a, .int .i64 c, .agg #[.int .i64 v.a, .int .i64 v.b, .int .i64 v.c, .int .i64 v.d]] w fun e w' => e = .returned (.int .i64 0) ∧ Pr w' p W (chF f a c fun x => x.sub v) ∧ w.grownBy w' (some p) := by
  refine (take_any p W f a c v w h).mono ?_
  rintro e w' (⟨h1, h2, h3⟩ | ⟨h1, h2, ⟨t, t1, t2, h4⟩, h3⟩ | ⟨h1, h2, h4, h3, h5⟩)
  · rw [hs, hv] at h2
    rcases h2 with h2 | h2 <;> cases h2
  · exact absurd ((opB_iff _ _ _ _).1 ho t t1 t2) h4
  · exact ⟨h1, h5, h3⟩
set_option maxRecDepth 100000 in
set_option maxHeartbeats 2000000 in
theorem gtake_any (q : Nat) (sv : Value) (n : Nat) (ps : Nat → Nat) (Ws : Nat → V4) (fs : Nat → Int → V4) (A : Option Addr) (cap : Nat) (xs : List Int) (a c : Int) (v : V4) (w : World) (h : PL w q sv n ps Ws fs) (hN : Ns w A xs) (hl : xs.length ≤ 9223372036854775807) (hap : Apart A n ps) (hg : Gang n xs) (hs : spanB a c = true) (hv : v.okB = true) :
    Calls Try.prog 16 #[.pointer (some ⟨q, 0, none⟩), .slice A xs.length cap, .int .i64 a, .int .i64 c, .agg #[.int .i64 v.a, .int .i64 v.b, .int .i64 v.c, .int .i64 v.d]] w (GTakePost w q sv n ps Ws fs xs a c v) := by
  have V0 := hid (heap_new w (.cells #[.int .i64 v.a, .int .i64 v.b, .int .i64 v.c, .int .i64 v.d] 40))
  have g0 := hid (show Below w.heap.size w (w.alloc (.cells #[.int .i64 v.a, .int .i64 v.b, .int .i64 v.c, .int .i64 v.d] 40)) from by go_grown)
  have KG : Hid (Calls Try.prog 32 #[.pointer (some ⟨q, 0, none⟩), .slice A xs.length cap] (w.alloc (.cells #[.int .i64 v.a, .int .i64 v.b, .int .i64 v.c, .int .i64 v.d] 40)) fun e w' => e = .returned (.bool true) ∧ (w.alloc (.cells #[.int .i64 v.a, .int .i64 v.b, .int .i64 v.c, .int .i64 v.d] 40)) = w') := hid (by
    have h1 := gang_any q sv n ps Ws fs A cap xs _ (h.keep g0.out) (hN.keep g0.out) hl
    rw [(gangB_iff n xs).2 hg] at h1
    exact h1)
  have KS : Hid (∀ w1, Calls Try.prog 33 #[.int .i64 a, .int .i64 c] w1 fun e w' => e = .returned (.bool true) ∧ w1 = w') := hid fun w1 => by
    have h := gspan_any a c w1
    rw [hs] at h
    exact h
  have KR : Hid (∀ w1, Calls Try.prog 34 #[.agg #[.int .i64 v.a, .int .i64 v.b, .int .i64 v.c, .int .i64 v.d]] w1 fun e w' => e = .returned (.bool true) ∧ Below w1.heap.size w1 w') := hid fun w1 => by
    have h := right4 v w1
    rw [hv] at h
    exact h
  have KO := hid (fun w1 (hb : Below w.heap.size w w1) => open_any q sv n ps Ws fs A cap xs a c v w1 (h.keep hb) (hN.keep hb) hl hs hv)
  have KT := hid (fun i f w1 (hp : Pr w1 (ps i) (Ws i) f) ho => take_free (ps i) (Ws i) f a c v w1 hp hs hv ho)
  have HL := hid (openL_len (fs := fs) (a := a) (c := c) (v := v) hg h.m)
  have HPL := hid h
  have HN := hid hN
  have HG := hid hg
  have hpl := hid (fun i (hi : i < n) => (h.p i hi).lt)
  have hql := lt_of h.h
  obtain ⟨lo, hlo⟩ : ∃ lo, lo = openL n fs xs a c v := ⟨_, rfl⟩
  rw [← hlo] at KO HL
  obtain ⟨m, hm⟩ : ∃ m, m = xs.length := ⟨_, rfl⟩
  have HM := hid hm
  rw [← hm] at hl KG KO HL ⊢
  obtain ⟨v0, v1, v2, v3⟩ := four V0.out
  clear h hN hg hs hv hlo hm
  by_cases hlt : lo.length < m
  · have hltd : decide (lo.length < m) = true := decide_eq_true hlt
    have HB := hid (HL.out.1 hlt)
    go_enter Try.func16, Try.ntmps16
    go_upto_region 3 with (first
      | (go_at_call 32; (with_reducible refine KG.out.mono ?_); rintro _ w2 ⟨rfl, rfl⟩)
      | (go_at_call 33; (with_reducible refine (KS.out _).mono ?_); rintro _ w2 ⟨rfl, rfl⟩)
      | (go_at_call 34; (with_reducible refine (KR.out _).mono ?_); rintro _ w3 ⟨rfl, hb⟩; have g3 := hid (below_step g0.out g0.out.size hb); have V3 := hid (keep0 hb V0.out); obtain ⟨va0, va1, va2, va3⟩ := four V3.out; clear hb))
    go_wp2_with fail
    refine (KO.out _ g3.out).mono ?_
    rintro _ w4 ⟨vo, rfl, ho, hb⟩
    have g4 := hid (below_step g3.out g3.out.size hb)
    rcases Nl.of_any ho with ⟨rfl, rfl⟩ | ⟨b4, c4, rfl, _, _⟩
    · clear ho hb
      go_wp2_with fail
      go_returns
      exact .inl ⟨rfl, HB.out, g4.out⟩
    · clear ho hb
      go_wp2_with fail
      go_returns
      exact .inl ⟨rfl, HB.out, g4.out⟩
  · have hltd : decide (lo.length < m) = false := decide_eq_false hlt
    have HB := hid (show ∀ i : Nat, (i : Int) ∈ xs → opB (fs i) v a c = true from fun i hi => by
      cases hb : opB (fs i) v a c
      · exact absurd (HL.out.2 ⟨i, hi, hb⟩) hlt
      · rfl)
    have hm0 : ¬ m = 0 := by
      intro e
      exact HG.out.1 (List.eq_nil_of_length_eq_zero (by have := HM.out; omega))
    go_enter Try.func16, Try.ntmps16
    go_upto_region 3 with (first
      | (go_at_call 32; (with_reducible refine KG.out.mono ?_); rintro _ w2 ⟨rfl, rfl⟩)
      | (go_at_call 33; (with_reducible refine (KS.out _).mono ?_); rintro _ w2 ⟨rfl, rfl⟩)
      | (go_at_call 34; (with_reducible refine (KR.out _).mono ?_); rintro _ w3 ⟨rfl, hb⟩; have g3 := hid (below_step g0.out g0.out.size hb); have V3 := hid (keep0 hb V0.out); obtain ⟨va0, va1, va2, va3⟩ := four V3.out; clear hb))
    go_wp2_with fail
    refine (KO.out _ g3.out).mono ?_
    rintro _ w4 ⟨vo, rfl, ho, hb⟩
    have g4 := hid (below_step g3.out g3.out.size hb)
    have V4 := hid (keep0 hb V3.out)
    rcases Nl.of_any ho with ⟨rfl, rfl⟩ | ⟨b4, c4, rfl, _, _⟩
    · exfalso
      simp only [List.length_nil] at hlt
      omega
    · clear ho hb
      go_wp2_with fail
      have P4 := hid (HPL.out.keep g4.out)
      have F4 := hid (FrP.of n ps g4.out)
      have hn0 : 0 < n := by
        obtain ⟨x, hx⟩ : ∃ x, xs[0]? = some x := ⟨_, List.getElem?_eq_getElem (by have := HM.out; omega)⟩
        have := HG.out.2.1 0 x hx
        omega
      obtain ⟨g, cp, rfl, _, _, _⟩ := HPL.out.row hn0
      clear KG KS KR KO V0 V3 v0 v1 v2 v3 va0 va1 va2 va3 g0 g3 hltd hlt hm0 HL
      go_loopw [40] (fun x wr => ∃ k : Nat, k ≤ m ∧ x = .int .i64 k ∧ PL wr q (.slice (some ⟨g, 0, none⟩) n cp) n ps Ws (fsT fs xs a c v k) ∧ FrP w wr n ps ∧ wr.heap[w.heap.size]? = some (.cells #[.int .i64 v.a, .int .i64 v.b, .int .i64 v.c, .int .i64 v.d] 40 (0, 0))) (fun x _ => m - (intOf x).toNat)
      case atStart => exact ⟨0, Nat.zero_le _, rfl, by rw [fsT_zero]; exact P4.out, F4.out, V4.out⟩
      case round =>
        clear P4 F4 V4 g4
        obtain ⟨k, hk, rfl, hp, hf, hv⟩ := hrel
        have HP := hid hp
        have HF := hid hf
        have HV := hid hv
        clear hp hf hv
        by_cases hlt : k < m
        · have hlt' : (k : Int) < (m : Int) := by omega
          obtain ⟨x, hx⟩ : ∃ x, xs[k]? = some x := ⟨_, List.getElem?_eq_getElem (by have := HM.out; omega)⟩
          obtain ⟨x0, x1⟩ := HG.out.2.1 k x hx
          obtain ⟨d, rfl⟩ := Int.eq_ofNat_of_zero_le x0
          have hdn : d < n := by omega
          obtain ⟨b, off, rfl, hc⟩ := (HN.out.fr HF.out hap).at hx
          have c0 := hc k _ hx
          obtain ⟨e1, e2⟩ := fsT_step (fs := fs) (a := a) (c := c) (v := v) HG.out hx
          have E2 := hid e2
          have hp := HP.out.p d hdn
          rw [e1] at hp
          have KTd := hid (KT.out d (fs d) wr.drew (hp.keep (Below.drew (Below.refl _ _))) (HB.out d (List.mem_of_getElem? hx)))
          have HROW : Hid (∀ (w1 : World) F, PL w1 q (.slice (some ⟨g, 0, none⟩) n cp) n ps Ws F → w1.cell? ⟨g, d, none⟩ = some (.pointer (some ⟨ps d, 0, none⟩)) ∧ w1.cell? ⟨q, 0, none⟩ = some (.slice (some ⟨g, 0, none⟩) n cp)) := hid fun w1 F h1 => by
            obtain ⟨g', cp', e, _, _, h2⟩ := h1.row hn0
            cases e
            exact ⟨h2 d hdn, h1.cell⟩
          obtain ⟨n0, q0⟩ := HROW.out wr _ HP.out
          obtain ⟨v0, v1, v2, v3⟩ := four HV.out
          have hpd := hpl.out d hdn
          have hd0 : (d : Int) < (n : Int) := by omega
          clear hc hx e1 e2 hp x0 x1
          go_wp2_with fail
          go_region_held3 (fun w' => w'.cell? ⟨q, 0, none⟩ = some (.slice (some ⟨g, 0, none⟩) n cp) ∧ w'.cell? ⟨g, d, none⟩ = some (.pointer (some ⟨ps d, 0, none⟩)) ∧ w'.cell? ⟨w.heap.size, 0, none⟩ = some (.int .i64 v.a) ∧ w'.cell? ⟨w.heap.size, 1, none⟩ = some (.int .i64 v.b) ∧ w'.cell? ⟨w.heap.size, 2, none⟩ = some (.int .i64 v.c) ∧ w'.cell? ⟨w.heap.size, 3, none⟩ = some (.int .i64 v.d)) (first | exact ⟨q0, n0, v0, v1, v2, v3⟩ | exact ⟨qa0, na0, va0, va1, va2, va3⟩ | go_keep)
            (first | (go_at_call 36; (with_reducible refine KTd.out.mono ?_); rintro _ w5 ⟨rfl, hp5, hb⟩; have hbw := (show wr.grownBy w5 (some (ps d)) from ⟨hb.os, hb.tape, hb.output, hb.size, hb.block⟩); have P5 := hid (HP.out.put hdn hp5 hbw); have F5 := hid (HF.out.then hbw hdn); have V5 := hid (gb_keep hbw HV.out (by simp; omega)); obtain ⟨na0, qa0⟩ := HROW.out _ _ P5.out; obtain ⟨va0, va1, va2, va3⟩ := four V5.out; clear hb hbw hp5))
          all_goals go_wp2_with fail
          all_goals go_roundw
          case rel => exact ⟨k + 1, by omega, by go_num, by rw [← E2.out]; exact P5.out, F5.out, V5.out⟩
          case measure => simp [intOf]; omega
        · obtain rfl : k = m := by omega
          go_wp2_with fail
          go_returns
          exact .inr ⟨rfl, HB.out, by rw [← HM.out]; exact HP.out, HF.out⟩
end Go.Proofs.Ythkofnahimlijaa
