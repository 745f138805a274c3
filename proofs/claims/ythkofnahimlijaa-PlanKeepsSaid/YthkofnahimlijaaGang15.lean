/- gang's Give of a gang that may be: the walk. Conditions: the pool and the numbers stand in memory, apart from one another. -/
import Derived.Test.YthkofnahimlijaaGang14
namespace Go.Proofs.Ythkofnahimlijaa
open Go Go.RowKit
theorem Pr.facts {w : World} {p : Nat} {W : V4} {f : Int → V4} (h : Pr w p W f) : (∀ t, (f t).le W) ∧ (∀ t, (t < 0 ∨ 1099511627776 ≤ t) → f t = W) ∧ (∀ t, (f t).ok) ∧ W.ok := by
  obtain ⟨b, cap, n, T, V, _, _, h3⟩ := h
  exact h3
set_option maxRecDepth 100000 in
set_option maxHeartbeats 2000000 in
theorem ggive_any (q : Nat) (sv : Value) (n : Nat) (ps : Nat → Nat) (Ws : Nat → V4) (fs : Nat → Int → V4) (A : Option Addr) (cap : Nat) (xs : List Int) (a c : Int) (v : V4) (w : World) (h : PL w q sv n ps Ws fs) (hN : Ns w A xs) (hl : xs.length ≤ 9223372036854775807) (hcap : xs.length ≤ cap) (hap : Apart A n ps) (hg : Gang n xs) (hs : spanB a c = true) (hv : v.okB = true) :
    Calls Try.prog 20 #[.pointer (some ⟨q, 0, none⟩), .slice A xs.length cap, .int .i64 a, .int .i64 c, .agg #[.int .i64 v.a, .int .i64 v.b, .int .i64 v.c, .int .i64 v.d]] w (GGivePost w q sv n ps Ws fs xs a c v) := by
  have V0 := hid (heap_new w (.cells #[.int .i64 v.a, .int .i64 v.b, .int .i64 v.c, .int .i64 v.d] 40))
  have g0 := hid (show Below w.heap.size w (w.alloc (.cells #[.int .i64 v.a, .int .i64 v.b, .int .i64 v.c, .int .i64 v.d] 40)) from by go_grown)
  have KG : Hid (Calls Try.prog 32 #[.pointer (some ⟨q, 0, none⟩), .slice A xs.length cap] (w.alloc (.cells #[.int .i64 v.a, .int .i64 v.b, .int .i64 v.c, .int .i64 v.d] 40)) fun e w' => e = .returned (.bool true) ∧ (w.alloc (.cells #[.int .i64 v.a, .int .i64 v.b, .int .i64 v.c, .int .i64 v.d] 40)) = w') := hid (by
    have h1 := gang_any q sv n ps Ws fs A cap xs _ (h.keep g0.out) (hN.keep g0.out) hl
    rw [(gangB_iff n xs).2 hg] at h1
    exact h1)
  have KS : Hid (∀ w1, Calls Try.prog 33 #[.int .i64 a, .int .i64 c] w1 fun e w' => e = .returned (.bool true) ∧ w1 = w') := hid fun w1 => by
    have h := gspan_any a c w1
    rw [hs] at h
    exact h
  have KR : Hid (∀ w1, Calls Try.prog 34 #[.agg #[.int .i64 v.a, .int .i64 v.b, .int .i64 v.c, .int .i64 v.d]] w1 fun e w' => e = .returned (.bool true) ∧ Below w1.heap.size w1 w') := hid fun w1 => by
    have h := right4 v w1
    rw [hv] at h
    exact h
  have KT := hid (fun i f w1 (hp : Pr w1 (ps i) (Ws i) f) ho => take_free (ps i) (Ws i) f a c v w1 hp hs hv ho)
  have KV := hid (fun i f w1 (hp : Pr w1 (ps i) (Ws i) f) => give_two (ps i) (Ws i) f a c v w1 hp hs hv)
  have HPL := hid h
  have HN := hid hN
  have HG := hid hg
  have hpl := hid (fun i (hi : i < n) => (h.p i hi).lt)
  have hql := lt_of h.h
  obtain ⟨m, hm⟩ : ∃ m, m = xs.length := ⟨_, rfl⟩
  have HM := hid hm
  rw [← hm] at hl hcap KG ⊢
  obtain ⟨v0, v1, v2, v3⟩ := four V0.out
  clear h hN hg hs hv hm
  have hm0 : ¬ m = 0 := by
    intro e
    exact HG.out.1 (List.eq_nil_of_length_eq_zero (by have := HM.out; omega))
  go_enter Try.func20, Try.ntmps20
  go_upto_region 3 with (first
    | (go_at_call 32; (with_reducible refine KG.out.mono ?_); rintro _ w2 ⟨rfl, rfl⟩)
    | (go_at_call 33; (with_reducible refine (KS.out _).mono ?_); rintro _ w2 ⟨rfl, rfl⟩)
    | (go_at_call 34; (with_reducible refine (KR.out _).mono ?_); rintro _ w3 ⟨rfl, hb⟩; have g3 := hid (below_step g0.out g0.out.size hb); have V3 := hid (keep0 hb V0.out); clear hb))
  go_wp2_with fail
  have P4 := hid (HPL.out.keep g3.out)
  have F4 := hid (FrP.of n ps g3.out)
  have hn0 : 0 < n := by
    obtain ⟨x, hx⟩ : ∃ x, xs[0]? = some x := ⟨_, List.getElem?_eq_getElem (by have := HM.out; omega)⟩
    have := HG.out.2.1 0 x hx
    omega
  obtain ⟨g, cp, rfl, _, _, _⟩ := HPL.out.row hn0
  clear KG KS KR V0 v0 v1 v2 v3 g0
  go_loopw [33] (fun x wr => ∃ k : Nat, k ≤ m ∧ x = .int .i64 k ∧ (∀ j (i : Nat), j < k → xs[j]? = some (i : Int) → ∀ t, a ≤ t → t < c → (V4.add (fs i t) v).le (Ws i)) ∧ PL wr q (.slice (some ⟨g, 0, none⟩) n cp) n ps Ws (fsG fs xs a c v k 0) ∧ FrP w wr n ps ∧ wr.heap[w.heap.size]? = some (.cells #[.int .i64 v.a, .int .i64 v.b, .int .i64 v.c, .int .i64 v.d] 40 (0, 0))) (fun x _ => m - (intOf x).toNat)
  case atStart => exact ⟨0, Nat.zero_le _, rfl, fun j i hj => absurd hj (Nat.not_lt_zero _), by rw [fsG_zero]; exact P4.out, F4.out, V3.out⟩
  case round =>
    clear P4 F4 V3 g3
    obtain ⟨k, hk, rfl, hfit, hp, hf, hv⟩ := hrel
    have HFIT := hid hfit
    have HP := hid hp
    have HF := hid hf
    have HV := hid hv
    clear hp hf hv hfit
    by_cases hlt : k < m
    · have hlt' : (k : Int) < (m : Int) := by omega
      obtain ⟨x, hx⟩ : ∃ x, xs[k]? = some x := ⟨_, List.getElem?_eq_getElem (by have := HM.out; omega)⟩
      obtain ⟨x0, x1⟩ := HG.out.2.1 k x hx
      obtain ⟨d, rfl⟩ := Int.eq_ofNat_of_zero_le x0
      have hdn : d < n := by omega
      obtain ⟨b, off, rfl, hc⟩ := (HN.out.fr HF.out hap).at hx
      have c0 := hc k _ hx
      obtain ⟨e1, e2⟩ := fsG_give (fs := fs) (a := a) (c := c) (v := v) HG.out hx
      have E2 := hid e2
      have hp := HP.out.p d hdn
      rw [e1] at hp
      have KVd : Hid (Calls Try.prog 44 #[.pointer (some ⟨ps d, 0, none⟩), .int .i64 a, .int .i64 c, .agg #[.int .i64 v.a, .int .i64 v.b, .int .i64 v.c, .int .i64 v.d]] wr.drew fun e w' => ∃ y : Int, e = .returned (.int .i64 y) ∧ ((y = 61 ∧ (∃ t, a ≤ t ∧ t < c ∧ ¬ (V4.add (fs d t) v).le (Ws d)) ∧ Below wr.heap.size wr w') ∨ (y = 0 ∧ (∀ t, a ≤ t → t < c → (V4.add (fs d t) v).le (Ws d)) ∧ Pr w' (ps d) (Ws d) (chF (fs d) a c fun x => x.add v) ∧ wr.grownBy w' (some (ps d))))) := hid ((KV.out d (fs d) wr.drew (hp.keep (Below.drew (Below.refl _ _)))).mono (by
        rintro e w' (⟨h1, h2, h3⟩ | ⟨h1, h2, h3, h4⟩)
        · exact ⟨61, h1, .inl ⟨rfl, h2, ⟨h3.os, h3.tape, h3.output, h3.size, h3.block⟩⟩⟩
        · exact ⟨0, h1, .inr ⟨rfl, h2, h3, ⟨h4.os, h4.tape, h4.output, h4.size, h4.block⟩⟩⟩))
      have hpd := hpl.out d hdn
      have HROW : Hid (∀ (w1 : World) F, PL w1 q (.slice (some ⟨g, 0, none⟩) n cp) n ps Ws F → w1.cell? ⟨g, d, none⟩ = some (.pointer (some ⟨ps d, 0, none⟩)) ∧ w1.cell? ⟨q, 0, none⟩ = some (.slice (some ⟨g, 0, none⟩) n cp)) := hid fun w1 F h1 => by
        obtain ⟨g', cp', e, _, _, h2⟩ := h1.row hn0
        cases e
        exact ⟨h2 d hdn, h1.cell⟩
      obtain ⟨n0, q0⟩ := HROW.out wr _ HP.out
      obtain ⟨v0, v1, v2, v3⟩ := four HV.out
      have hd0 : (d : Int) < (n : Int) := by omega
      have HX := hid hx
      clear hc hx e1 e2 hp x0 x1
      go_wp2_with fail
      go_region_held3 (fun w' => w'.cell? ⟨q, 0, none⟩ = some (.slice (some ⟨g, 0, none⟩) n cp) ∧ w'.cell? ⟨g, d, none⟩ = some (.pointer (some ⟨ps d, 0, none⟩)) ∧ w'.cell? ⟨w.heap.size, 0, none⟩ = some (.int .i64 v.a) ∧ w'.cell? ⟨w.heap.size, 1, none⟩ = some (.int .i64 v.b) ∧ w'.cell? ⟨w.heap.size, 2, none⟩ = some (.int .i64 v.c) ∧ w'.cell? ⟨w.heap.size, 3, none⟩ = some (.int .i64 v.d)) (first | exact ⟨q0, n0, v0, v1, v2, v3⟩ | exact ⟨qa0, na0, va0, va1, va2, va3⟩ | go_keep)
        (first | (go_at_call 44; (with_reducible refine KVd.out.mono ?_); rintro _ w5 ⟨y, rfl, hy⟩; have HY := hid hy; have V5 : Hid (w5.heap[w.heap.size]? = some (.cells #[.int .i64 v.a, .int .i64 v.b, .int .i64 v.c, .int .i64 v.d] 40 (0, 0))) := hid (by (rcases hy with ⟨_, _, hb⟩ | ⟨_, _, _, hb⟩); (exact keep0 hb HV.out); (exact gb_keep hb HV.out (by simp; omega))); have P5 : Hid (∃ F, PL w5 q (.slice (some ⟨g, 0, none⟩) n cp) n ps Ws F) := hid (by (rcases hy with ⟨_, _, hb⟩ | ⟨_, _, hp5, hb⟩); (exact ⟨_, HP.out.keep hb⟩); (exact ⟨_, HP.out.put hdn hp5 hb⟩)); obtain ⟨F5, hF5⟩ := P5.out; obtain ⟨na0, qa0⟩ := HROW.out _ _ hF5; obtain ⟨va0, va1, va2, va3⟩ := four V5.out; clear hy hF5))
      rcases HY.out with ⟨rfl, hno, hb⟩ | ⟨rfl, hyes, hp5, hb⟩
      · have P5 := hid (HP.out.keep hb)
        have F5 := hid (show FrP w w5 n ps from ⟨hb.os.trans HF.out.os, hb.tape.trans HF.out.tape, hb.output.trans HF.out.output, Nat.le_trans HF.out.size hb.size, fun k hk hn => (hb.block k (by have := HF.out.size; omega)).trans (HF.out.block k hk hn)⟩)
        have HNO := hid hno
        have hkc : (k : Int) ≤ (cap : Int) := by omega
        clear HY hno hb
        go_wp2_with fail
        go_loopw [55] (fun x ws => ∃ j : Nat, j ≤ k ∧ x = .int .i64 j ∧ PL ws q (.slice (some ⟨g, 0, none⟩) n cp) n ps Ws (fsG fs xs a c v k j) ∧ FrP w ws n ps ∧ ws.heap[w.heap.size]? = some (.cells #[.int .i64 v.a, .int .i64 v.b, .int .i64 v.c, .int .i64 v.d] 40 (0, 0))) (fun x _ => k - (intOf x).toNat)
        case atStart => exact ⟨0, Nat.zero_le _, rfl, P5.out, F5.out, V5.out⟩
        case round =>
          clear P5 F5 V5 n0 q0 v0 v1 v2 v3 c0 KVd HROW HP HF HV
          obtain ⟨j, hj, rfl, hp, hf, hv⟩ := hrel
          have HP := hid hp
          have HF := hid hf
          have HV := hid hv
          clear hp hf hv
          by_cases hjk : j < k
          · have hjk' : (j : Int) < (k : Int) := by omega
            obtain ⟨x, hx⟩ : ∃ x, xs[j]? = some x := ⟨_, List.getElem?_eq_getElem (by have := HM.out; omega)⟩
            obtain ⟨x0, x1⟩ := HG.out.2.1 j x hx
            obtain ⟨i, rfl⟩ := Int.eq_ofNat_of_zero_le x0
            have hin : i < n := by omega
            obtain ⟨b', off', hA, hc⟩ := (HN.out.fr HF.out hap).at hx
            cases hA
            have c0 := hc j _ hx
            obtain ⟨e1, e2⟩ := fsG_back (fs := fs) (a := a) (c := c) (v := v) HG.out hx hjk
            have E2 := hid e2
            have hp := HP.out.p i hin
            rw [e1] at hp
            have KTd := hid (KT.out i _ wr.drew (hp.keep (Below.drew (Below.refl _ _))) (op_ford (HPL.out.p i hin).facts.2.2.1))
            have HROW : Hid (∀ (w1 : World) F, PL w1 q (.slice (some ⟨g, 0, none⟩) n cp) n ps Ws F → w1.cell? ⟨g, i, none⟩ = some (.pointer (some ⟨ps i, 0, none⟩)) ∧ w1.cell? ⟨q, 0, none⟩ = some (.slice (some ⟨g, 0, none⟩) n cp)) := hid fun w1 F h1 => by
              obtain ⟨g', cp', e, _, _, h2⟩ := h1.row hn0
              cases e
              exact ⟨h2 i hin, h1.cell⟩
            obtain ⟨n0, q0⟩ := HROW.out wr _ HP.out
            obtain ⟨v0, v1, v2, v3⟩ := four HV.out
            have hpi := hpl.out i hin
            have hi0 : (i : Int) < (n : Int) := by omega
            clear hc hx e1 e2 hp x0 x1
            go_wp2_with fail
            go_region_held3 (fun w' => w'.cell? ⟨q, 0, none⟩ = some (.slice (some ⟨g, 0, none⟩) n cp) ∧ w'.cell? ⟨g, i, none⟩ = some (.pointer (some ⟨ps i, 0, none⟩)) ∧ w'.cell? ⟨w.heap.size, 0, none⟩ = some (.int .i64 v.a) ∧ w'.cell? ⟨w.heap.size, 1, none⟩ = some (.int .i64 v.b) ∧ w'.cell? ⟨w.heap.size, 2, none⟩ = some (.int .i64 v.c) ∧ w'.cell? ⟨w.heap.size, 3, none⟩ = some (.int .i64 v.d)) (first | exact ⟨q0, n0, v0, v1, v2, v3⟩ | exact ⟨qb0, nb0, vb0, vb1, vb2, vb3⟩ | go_keep)
              (first | (go_at_call 36; (with_reducible refine KTd.out.mono ?_); rintro _ w6 ⟨rfl, hp6, hb⟩; have hbw := (show wr.grownBy w6 (some (ps i)) from ⟨hb.os, hb.tape, hb.output, hb.size, hb.block⟩); have P6 := hid (HP.out.put hin hp6 hbw); have F6 := hid (HF.out.then hbw hin); have V6 := hid (gb_keep hbw HV.out (by simp; omega)); obtain ⟨nb0, qb0⟩ := HROW.out _ _ P6.out; obtain ⟨vb0, vb1, vb2, vb3⟩ := four V6.out; clear hb hbw hp6))
            all_goals go_wp2_with fail
            all_goals go_roundw
            case rel => exact ⟨j + 1, by omega, by go_num, by rw [← E2.out]; exact P6.out, F6.out, V6.out⟩
            case measure => simp [intOf]; omega
          · obtain rfl : j = k := by omega
            go_wp2_with fail
            go_returns
            exact .inl ⟨rfl, ⟨d, List.mem_of_getElem? HX.out, HNO.out⟩, by have h := HP.out; rw [fsG_same] at h; exact h, HF.out⟩
      · have P5 := hid (HP.out.put hdn hp5 hb)
        have F5 := hid (HF.out.then hb hdn)
        have HYES := hid hyes
        clear HY hyes hp5 hb
        go_wp2_with fail
        go_roundw
        case rel => exact ⟨k + 1, by omega, by go_num, fun j i hj hi => by
          rcases Nat.lt_or_ge j k with h | h
          · exact HFIT.out j i h hi
          · obtain rfl : j = k := by omega
            have h2 := HX.out
            rw [hi] at h2
            obtain rfl : i = d := by
              have := Option.some.inj h2
              omega
            exact HYES.out, by rw [← E2.out]; exact P5.out, F5.out, V5.out⟩
        case measure => simp [intOf]; omega
    · obtain rfl : k = m := by omega
      go_wp2_with fail
      go_returns
      exact .inr ⟨rfl, fun i hi => by
        obtain ⟨j, hj⟩ := List.getElem?_of_mem hi
        have := (List.getElem?_eq_some_iff.1 hj).1
        exact HFIT.out j i (by have := HM.out; omega) hj, by rw [← HM.out]; exact HP.out, HF.out⟩
end Go.Proofs.Ythkofnahimlijaa
