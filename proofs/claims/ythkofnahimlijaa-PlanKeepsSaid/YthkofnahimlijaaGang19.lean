/- gang's Find. Conditions: the pool and the places stand in memory. -/
import Derived.Test.YthkofnahimlijaaGang18
namespace Go.Proofs.Ythkofnahimlijaa
open Go Go.RowKit
def okOf : Value → Bool
  | .bool b => b
  | _ => false
/-- What is found, in memory of the call's own. -/
def FindPost (w : World) (n : Nat) (fs : Nat → Int → V4) (xs : List Int) (v : V4) (a k : Int) (m : Nat) (e : Ending) (w' : World) : Prop :=
  Below w.heap.size w w' ∧ ((∃ t v', e = .returned (.tuple #[.int .i64 t, v', .bool true]) ∧ FindAt n fs xs v a k m t ∧ w'.ownsRow w.heap.size 3 1 v' m (nums ((openL n fs xs t (t + k) v).take m))) ∨
    (e = .returned (.tuple #[.int .i64 0, .slice none 0 0, .bool false]) ∧ ∀ u, max a 0 ≤ u → u ≤ 1099511627776 - k → (openL n fs xs u (u + k) v).length < m))
theorem Nl.ns {w : World} {b cap : Nat} {l : List Nat} (h : Nl w b cap l) : Ns w (some ⟨b, 0, none⟩) (l.map fun i : Nat => (i : Int)) := by
  obtain ⟨cs, h1, _, _, _, h5⟩ := h
  refine .inr ⟨b, 0, rfl, lt_of h1, fun i x hx => ?_⟩
  rw [List.getElem?_map, Option.map_eq_some_iff] at hx
  obtain ⟨y, hy, rfl⟩ := hx
  rw [Nat.zero_add]
  exact (cell_of h1 i).trans (h5 i y hy)
/-- A copy of the first of some numbers. -/
theorem clone_own (B m cap : Nat) (b : Nat) (l : List Nat) (w : World) (h : Nl w b cap l) (hm : m ≤ l.length) (h16 : l.length ≤ 16) (hB : B ≤ w.heap.size) (c : Nat) :
    Calls Try.prog 42 #[.slice (some ⟨b, 0, none⟩) m c] w fun e w' => ∃ v', e = .returned v' ∧ w'.ownsRow B 3 1 v' m (nums (l.take m)) ∧ Below w.heap.size w w' := by
  obtain ⟨cs, h1, _, _, _, h5⟩ := h
  refine (Try.slices_Clone_int b 0 m c (l.map fun i : Nat => (i : Int)) w (by simpa using hm) (by omega) (fun j hj => ?_)).mono ?_
  · have hj' : j < l.length := by simpa using hj
    rw [Nat.zero_add, cell_of h1 j, h5 j _ (List.getElem?_eq_getElem hj')]
    simp [List.getD, hj']
  · rintro e w' ⟨v', rfl, ho, _, hb⟩
    refine ⟨v', rfl, ?_, hb⟩
    have := own_weak ho hB
    simpa [nums, List.map_take, Function.comp_def] using this
theorem Nl.keepB {w w' : World} {b cap : Nat} {l : List Nat} (h : Nl w b cap l) (hb : Below w.heap.size w w') : Nl w' b cap l := h.keep (hb.block b (by obtain ⟨cs, h1, _⟩ := h; exact lt_of h1))
theorem openL_le (n : Nat) (fs : Nat → Int → V4) (xs : List Int) (a c : Int) (v : V4) : (openL n fs xs a c v).length ≤ 16 := by
  unfold openL
  exact Nat.le_trans (List.length_filter_le _ _) (cntL_le n xs 16)
theorem eg_find1 : ∀ args w, (callFunc 39 args).run Try.prog w = .ok (.enter 39 args) w := enters_of Try.func39 (by kernel_rfl) rfl
set_option maxHeartbeats 2000000 in
theorem find_core (q : Nat) (sv : Value) (n : Nat) (ps : Nat → Nat) (Ws : Nat → V4) (fs : Nat → Int → V4) (A : Option Addr) (cap m : Nat) (xs : List Int) (k a : Int) (v : V4) (w : World) (h : PL w q sv n ps Ws fs) (hN : Ns w A xs) (hl : xs.length ≤ 9223372036854775807) (hm1 : 1 ≤ m) (hmc : m ≤ (cntL n xs 16).length) (hk1 : 1 ≤ k) (hk2 : k ≤ 9223372036854775807) (ha : a ≤ 9223372036854775807) (hv : v.okB = true) :
    Calls Try.prog 18 #[.pointer (some ⟨q, 0, none⟩), .slice A xs.length cap, .int .i64 (m : Nat), .agg #[.int .i64 v.a, .int .i64 v.b, .int .i64 v.c, .int .i64 v.d], .int .i64 k, .int .i64 a] w (FindPost w n fs xs v a k m) := by
  have KR : Hid (∀ w1, Calls Try.prog 34 #[.agg #[.int .i64 v.a, .int .i64 v.b, .int .i64 v.c, .int .i64 v.d]] w1 fun e w' => e = .returned (.bool true) ∧ Below w1.heap.size w1 w') := hid fun w1 => by
    have h := right4 v w1
    rw [hv] at h
    exact h
  obtain ⟨W1, hW1⟩ : ∃ W1, W1 = (((w.alloc (.cells #[.pointer (some ⟨q, 0, none⟩)] 49)).alloc (.cells #[.int .i64 (m : Nat)] 3)).alloc (.cells #[.int .i64 v.a, .int .i64 v.b, .int .i64 v.c, .int .i64 v.d] 40)).alloc (.cells #[.int .i64 k] 3) := ⟨_, rfl⟩
  have Q0 := hid (show W1.heap[w.heap.size]? = some (.cells #[.pointer (some ⟨q, 0, none⟩)] 49 (0, 0)) from by rw [hW1]; exact heapA (heapA (heapA (heap_new w _))))
  have M0 := hid (show W1.heap[w.heap.size + 1]? = some (.cells #[.int .i64 (m : Nat)] 3 (0, 0)) from by rw [hW1]; exact heapA (heapA (by simpa using heap_new (w.alloc (.cells #[.pointer (some ⟨q, 0, none⟩)] 49)) (.cells #[.int .i64 (m : Nat)] 3))))
  have V0 := hid (show W1.heap[w.heap.size + 1 + 1]? = some (.cells #[.int .i64 v.a, .int .i64 v.b, .int .i64 v.c, .int .i64 v.d] 40 (0, 0)) from by rw [hW1]; exact heapA (by simpa using heap_new ((w.alloc (.cells #[.pointer (some ⟨q, 0, none⟩)] 49)).alloc (.cells #[.int .i64 (m : Nat)] 3)) (.cells #[.int .i64 v.a, .int .i64 v.b, .int .i64 v.c, .int .i64 v.d] 40)))
  have T0 := hid (show W1.heap[w.heap.size + 1 + 1 + 1]? = some (.cells #[.int .i64 k] 3 (0, 0)) from by rw [hW1]; simpa using heap_new (((w.alloc (.cells #[.pointer (some ⟨q, 0, none⟩)] 49)).alloc (.cells #[.int .i64 (m : Nat)] 3)).alloc (.cells #[.int .i64 v.a, .int .i64 v.b, .int .i64 v.c, .int .i64 v.d] 40)) (.cells #[.int .i64 k] 3))
  have g0 := hid (show Below w.heap.size w W1 from by rw [hW1]; go_grown)
  have KC := hid (fun w1 (hb : Below w.heap.size w w1) => counting_any (.pointer (some ⟨q, 0, none⟩)) n A cap xs w1 (fun i w2 h2 => hasK_any q sv n ps Ws fs w h i w2 (hb.trans (h2.mono hb.size))) h.m (hN.keep hb) hl)
  have hll := cntL_le n xs 16
  have KF := hid (fun (w1 : World) (hb : Below w.heap.size w w1) g cap' bn s => fun (hNl : Nl w1 g cap' (cntL n xs 16)) hbn hbq hbt hbv hbm hs => find1_any q sv n ps Ws fs bn w.heap.size (w.heap.size + 1 + 1 + 1) (w.heap.size + 1 + 1) (w.heap.size + 1) g cap' m (cntL n xs 16) v s k w1 (h.keep hb) (fun i hi => cntL_lt hi) hll (by intro e; rw [e] at hmc; simp at hmc; omega) hNl hbn hbq hbt hbv hbm hv hk1 hs hm1 (by omega))
  have KO := hid (fun (w1 : World) (hb : Below w.heap.size w w1) g cap' s (hNl : Nl w1 g cap' (cntL n xs 16)) (h1 : 0 ≤ s) (h2 : s ≤ 1099511627776 - k) => (by
    have h0 := open_any q sv n ps Ws fs (some ⟨g, 0, none⟩) cap' ((cntL n xs 16).map fun i : Nat => (i : Int)) s (s + k) v w1 (h.keep hb) hNl.ns (by simp; omega) ((spanB_iff s (s + k)).2 ⟨h1, by omega, by omega⟩) hv
    rw [openL_cnt] at h0
    rw [List.length_map] at h0
    exact h0 : Calls Try.prog 35 #[.pointer (some ⟨q, 0, none⟩), .slice (some ⟨g, 0, none⟩) (cntL n xs 16).length cap', .int .i64 s, .int .i64 (s + k), .agg #[.int .i64 v.a, .int .i64 v.b, .int .i64 v.c, .int .i64 v.d]] w1 (OpenPost w1 (openL n fs xs s (s + k) v))))
  have hW1' := hid hW1
  obtain ⟨z, hz⟩ : ∃ z, z = xs.length := ⟨_, rfl⟩
  rw [← hz] at KC ⊢
  have HOP := hid (fun u => opN_open n fs xs v u k)
  obtain ⟨l, hl2⟩ : ∃ l, l = cntL n xs 16 := ⟨_, rfl⟩
  rw [← hl2] at KC KF KO HOP hmc hll
  clear h hN hl hz hl2 hv
  go_enter Try.func18, Try.ntmps18
  go_upto_region 1 with (fail)
  rw [← hW1'.out]
  clear hW1 hW1'
  have q0 := one Q0.out
  go_step3
  go_upto_region 2 with (go_at_call 38; (with_reducible refine (KC.out _ g0.out).mono ?_); rintro _ w4 ⟨vc, rfl, ho, hb4⟩; have g4 := hid (below_step g0.out g0.out.size hb4); obtain ⟨g, cg, rfl, hBg, hNg⟩ := Nl.of_row ho (by intro e; rw [e] at hmc; simp at hmc; omega); have NG := hid hNg; have M4 := hid (keep0 hb4 M0.out); have V4 := hid (keep0 hb4 V0.out); have T4 := hid (keep0 hb4 T0.out); have Q4 := hid (keep0 hb4 Q0.out); clear hb4 ho hNg)
  obtain ⟨W2, hW2⟩ : ∃ W2, W2 = w4.alloc (.cells #[.slice (some ⟨g, 0, none⟩) l.length cg] 31) := ⟨_, rfl⟩
  rw [← hW2]
  have Q2 := hid (show W2.heap[w.heap.size]? = some (.cells #[.pointer (some ⟨q, 0, none⟩)] 49 (0, 0)) from by rw [hW2]; exact heapA Q4.out)
  have M2 := hid (show W2.heap[w.heap.size + 1]? = some (.cells #[.int .i64 (m : Nat)] 3 (0, 0)) from by rw [hW2]; exact heapA M4.out)
  have T2 := hid (show W2.heap[w.heap.size + 1 + 1 + 1]? = some (.cells #[.int .i64 k] 3 (0, 0)) from by rw [hW2]; exact heapA T4.out)
  have V2 := hid (show W2.heap[w.heap.size + 1 + 1]? = some (.cells #[.int .i64 v.a, .int .i64 v.b, .int .i64 v.c, .int .i64 v.d] 40 (0, 0)) from by rw [hW2]; exact heapA V4.out)
  obtain ⟨bn, hbn⟩ : ∃ bn, bn = w4.heap.size := ⟨_, rfl⟩
  have N2 := hid (show W2.heap[bn]? = some (.cells #[.slice (some ⟨g, 0, none⟩) l.length cg] 31 (0, 0)) from by rw [hW2, hbn]; exact heap_new w4 _)
  have L2 := hid (show Nl W2 g cg l from NG.out.keep (by
    obtain ⟨cs, h1, _⟩ := NG.out
    rw [hW2, h1]
    exact heapA h1))
  have G2 := hid (show Below w.heap.size w W2 from by rw [hW2]; exact g4.out.alloc g4.out.size _)
  rw [← hbn]
  clear hW2 M4 V4 T4 Q4 g4 NG KC Q0 M0 V0 T0 g0 q0 hBg hbn
  have mb := one M2.out
  have tb := one T2.out
  obtain ⟨v0, v1, v2, v3⟩ := four V2.out
  have nb := one N2.out
  have hmd : decide ((m : Int) < 1) = false := decide_eq_false (by omega)
  have hm' : (1 : Int) ≤ (m : Int) := by omega
  have hc' : (m : Int) ≤ (l.length : Int) := by omega
  have hcd : decide ((l.length : Int) < (m : Int)) = false := decide_eq_false (by omega)
  have hcd2 : decide (l.length < m) = false := decide_eq_false (by omega)
  have hkd : decide (k < 1) = false := decide_eq_false (by omega)
  go_upto_region 5 with (go_at_call 34; (with_reducible refine (KR.out _).mono ?_); rintro _ w5 ⟨rfl, hb⟩; have g5 := hid (below_step G2.out G2.out.size hb); have Q5 := hid (keep0 hb Q2.out); have M5 := hid (keep0 hb M2.out); have T5 := hid (keep0 hb T2.out); have V5 := hid (keep0 hb V2.out); have N5 := hid (keep0 hb N2.out); have L5 := hid (L2.out.keepB hb); clear hb)
  clear mb tb v0 v1 v2 v3 nb hmd hm' hc' hcd hcd2 hkd KR Q2 M2 T2 V2 N2 L2 G2
  have KN := hid (fun s (hs : s ≤ 9223372036854775807) w6 (hb : Below w5.heap.size w5 w6) => KF.out w6 (g5.out.trans (hb.mono g5.out.size)) g cg bn s (L5.out.keepB hb) (keep0 hb N5.out) (keep0 hb Q5.out) (keep0 hb T5.out) (keep0 hb V5.out) (keep0 hb M5.out) hs)
  have KP := hid (fun s (h1 : 0 ≤ s) (h2 : s ≤ 1099511627776 - k) w6 (hb : Below w5.heap.size w5 w6) => KO.out w6 (g5.out.trans (hb.mono g5.out.size)) g cg s (L5.out.keepB hb) h1 h2)
  clear KF KO
  go_step3
  have KN0 := hid (KN.out (max a 0) (by omega) w5 (Below.refl _ _))
  go_wp2_with fail
  refine KN0.out.mono ?_
  rintro _ w6 ⟨rfl, hb⟩
  have H6 := hid hb
  clear hb KN0
  have HNX := hid (fun s o (h0 : 0 ≤ s) (h : nxT fs v s k l m = o) => (show (∀ t, o = some t → s ≤ t ∧ t ≤ 1099511627776 - k ∧ (∀ u, s ≤ u → u < t → (openL n fs xs u (u + k) v).length < m) ∧ (t = s → m ≤ (openL n fs xs t (t + k) v).length)) ∧ (o = none → ∀ u, s ≤ u → u ≤ 1099511627776 - k → (openL n fs xs u (u + k) v).length < m) from ⟨fun t ht => by
      have h5 := nx_some h0 (h.trans ht) hm1
      simp only [HOP.out] at h5
      exact h5, fun ht => by
      have h5 := nx_none h0 (h.trans ht) hm1
      simp only [HOP.out] at h5
      exact h5⟩))
  obtain ⟨NX, hNX⟩ : ∃ NX : Int → Option Int, NX = fun s => nxT fs v s k l m := ⟨_, rfl⟩
  have KN' : Hid (∀ s, s ≤ 9223372036854775807 → ∀ w6, Below w5.heap.size w5 w6 → Calls Try.prog 39 #[.int .i64 s, .pointer (some ⟨bn, 0, none⟩), .pointer (some ⟨w.heap.size, 0, none⟩), .pointer (some ⟨w.heap.size + 1 + 1 + 1, 0, none⟩), .pointer (some ⟨w.heap.size + 1 + 1, 0, none⟩), .pointer (some ⟨w.heap.size + 1, 0, none⟩)] w6 (NxPost w6 (NX s))) := hid (by rw [hNX]; exact KN.out)
  have HNX' : Hid (∀ s, 0 ≤ s → (∀ t, NX s = some t → s ≤ t ∧ t ≤ 1099511627776 - k ∧ (∀ u, s ≤ u → u < t → (openL n fs xs u (u + k) v).length < m) ∧ (t = s → m ≤ (openL n fs xs t (t + k) v).length)) ∧ (NX s = none → ∀ u, s ≤ u → u ≤ 1099511627776 - k → (openL n fs xs u (u + k) v).length < m)) := hid (by rw [hNX]; exact fun s h0 => HNX.out s _ h0 rfl)
  rw [show nxT fs v (max a 0) k l m = NX (max a 0) from by rw [hNX]]
  clear hNX KN HNX HOP
  go_wp2_with fail
  go_loopw [17, 18] (fun x y wr => ∃ s, max a 0 ≤ s ∧ x = .int .i64 (eT (NX s)) ∧ y = .bool (NX s).isSome ∧ Below w5.heap.size w5 wr ∧ ∀ u, max a 0 ≤ u → u < s → (openL n fs xs u (u + k) v).length < m) (fun x y _ => if okOf y = true then (1099511627777 - intOf x).toNat else 0)
  case atStart => exact ⟨max a 0, Int.le_refl _, rfl, rfl, H6.out, fun u u1 u2 => by omega⟩
  case round =>
    obtain ⟨s, hs, rfl, rfl, hg, hno⟩ := hrel
    have HG := hid hg
    have HNO := hid hno
    have hs0 : 0 ≤ s := by omega
    obtain ⟨hX1, hX2⟩ := HNX'.out s hs0
    have GW := hid (show Below w.heap.size w wr from g5.out.trans (hg.mono g5.out.size))
    have qb := one (keep0 hg Q5.out)
    have mb := one (keep0 hg M5.out)
    have tb := one (keep0 hg T5.out)
    have nb := one (keep0 hg N5.out)
    obtain ⟨v0, v1, v2, v3⟩ := four (keep0 hg V5.out)
    clear hg hno
    cases ho : NX s with
    | none =>
      have H2 := hid (hX2 ho)
      clear hX1 hX2 ho
      go_wp2_with fail
      go_returns
      refine ⟨GW.out, .inr ⟨rfl, fun u u1 u2 => ?_⟩⟩
      by_cases hus : u < s
      · exact HNO.out u u1 hus
      · exact H2.out u (by omega) u2
    | some t =>
      obtain ⟨t1, t2, t3, t4⟩ := hX1 t ho
      have T3 := hid t3
      have T4 := hid t4
      have KPt := hid (KP.out t (by omega) t2 wr HG.out)
      have KNt := hid (KN'.out t (by omega))
      obtain ⟨lo, hlo⟩ : ∃ lo, lo = openL n fs xs t (t + k) v := ⟨_, rfl⟩
      have HLO := hid hlo
      have HO := hid ho
      rw [← hlo] at KPt T4
      have hl16 : lo.length ≤ 16 := by rw [hlo]; exact openL_le n fs xs t (t + k) v
      clear hX1 hX2 ho t3 t4 hlo
      rw [show eT (some t) = t from rfl]
      by_cases hlm : lo.length < m
      · have hltd : decide (lo.length < m) = true := decide_eq_true hlm
        have hlt' : (lo.length : Int) < (m : Int) := by omega
        have hltd0 : decide (0 < m) = true := decide_eq_true (by omega)
        have hlt0 : (0 : Int) < (m : Int) := by omega
        go_wp2_with fail
        refine KPt.out.mono ?_
        rintro _ w7 ⟨vo, rfl, ho, hb⟩
        have G7 := hid (HG.out.trans (hb.mono HG.out.size))
        have hvo := Nl.of_any ho
        have mb7 := one (keep0 G7.out M5.out)
        clear ho hb
        have KN7 := hid (KNt.out w7 G7.out)
        have HM := hid (show (if okOf (.bool (NX t).isSome) = true then (1099511627777 - intOf (.int .i64 (eT (NX t)))).toNat else 0) < (1099511627777 - t).toNat from by
          cases hx : NX t with
          | none =>
            simp [okOf]
            omega
          | some t' =>
            obtain ⟨k1, _, _, k4⟩ := (HNX'.out t (by omega)).1 t' hx
            have : t' ≠ t := by
              intro e
              subst e
              have := k4 rfl
              rw [← HLO.out] at this
              omega
            simp [okOf, intOf, eT]
            omega)
        rcases hvo with ⟨rfl, hl0⟩ | ⟨b7, c7, rfl, _, _⟩
        all_goals go_wp2_with fail
        all_goals refine KN7.out.mono ?_
        all_goals rintro _ w8 ⟨rfl, hb⟩
        all_goals have G8 := hid (G7.out.trans (hb.mono G7.out.size))
        all_goals clear hb
        all_goals go_wp2_with fail
        all_goals go_roundw
        all_goals first
          | exact ⟨t, by omega, rfl, rfl, G8.out, fun u u1 u2 => by
              by_cases hus : u < s
              · exact HNO.out u u1 hus
              · exact T3.out u (by omega) u2⟩
          | simpa [okOf, intOf] using HM.out
      · have hltd : decide (lo.length < m) = false := decide_eq_false hlm
        have hml : m ≤ lo.length := by omega
        have hlt' : (m : Int) ≤ (lo.length : Int) := by omega
        go_wp2_with fail
        refine KPt.out.mono ?_
        rintro _ w7 ⟨vo, rfl, ho, hb⟩
        have G7 := hid (HG.out.trans (hb.mono HG.out.size))
        obtain ⟨b7, c7, rfl, _, hN7⟩ := Nl.of_row ho (by intro e; rw [e] at hml; simp at hml; omega)
        have mb7 := one (keep0 G7.out M5.out)
        have hc7 : lo.length ≤ c7 := by
          obtain ⟨_, _, _, h3, _⟩ := hN7
          exact h3
        have hc7' : (m : Int) ≤ (c7 : Int) := by omega
        have hm00 : (0 : Int) ≤ (m : Int) := by omega
        have GW7 := hid (show Below w.heap.size w w7 from g5.out.trans (G7.out.mono g5.out.size))
        have KK := hid (fun c => clone_own w.heap.size m c7 b7 lo w7 hN7 hml hl16 GW7.out.size c)
        clear ho hb hN7
        go_wp2_with fail
        refine (KK.out _).mono ?_
        rintro _ w8 ⟨v', rfl, ho, hb⟩
        have O8 := hid ho
        have G8 := hid (below_step GW7.out GW7.out.size hb)
        clear ho hb
        go_wp2_with fail
        go_returns
        refine ⟨G8.out, .inl ⟨t, v', rfl, ⟨by omega, t2, by rw [← HLO.out]; exact hml, fun u u1 u2 => ?_⟩, by rw [← HLO.out]; exact O8.out⟩⟩
        by_cases hus : u < s
        · exact HNO.out u u1 hus
        · exact T3.out u (by omega) u2
end Go.Proofs.Ythkofnahimlijaa
