/- profile.New, Earliest. Conditions: the profile stands in memory, its steps tell what is free. -/
import Derived.Test.YthkofnahimlijaaProf4
import Derived.Deep.LoopGhost
namespace Go.Proofs.Ythkofnahimlijaa
open Go Go.RowKit
def NewPost (w : World) (W : V4) (e : Ending) (w' : World) : Prop := ∃ p b, e = .returned (.pointer (some ⟨p, 0, none⟩)) ∧ PV w' p b 1 W 1 (fun _ => 0) (fun _ => W) ∧ w.heap.size ≤ p ∧ w.heap.size ≤ b ∧ Below w.heap.size w w'
theorem new_ok (W : V4) (hW : W.okB = true) (w : World) : Calls Try.prog 31 #[.agg #[.int .i64 W.a, .int .i64 W.b, .int .i64 W.c, .int .i64 W.d]] w (NewPost w W) := by
  have KR : Hid (∀ w1, Calls Try.prog 34 #[.agg #[.int .i64 W.a, .int .i64 W.b, .int .i64 W.c, .int .i64 W.d]] w1 fun e w' => e = .returned (.bool true) ∧ Below w1.heap.size w1 w') := hid fun w1 => by
    have h := right4 W w1
    rw [hW] at h
    exact h
  have X0 := hid (heap_new w (.cells #[.int .i64 W.a, .int .i64 W.b, .int .i64 W.c, .int .i64 W.d] 40))
  have g0 := hid (show Below w.heap.size w (w.alloc (.cells #[.int .i64 W.a, .int .i64 W.b, .int .i64 W.c, .int .i64 W.d] 40)) from by go_grown)
  clear hW
  go_enter Try.func31, Try.ntmps31
  go_wp2_with fail
  refine (KR.out _).mono ?_
  rintro _ w2 ⟨rfl, hb⟩
  have X2 := hid (keep0 hb X0.out)
  have g2 := hid (below_step g0.out g0.out.size hb)
  clear hb
  obtain ⟨l0, l1, l2, l3⟩ := four X2.out
  go_wp2_with fail
  go_returns
  have hb : ((w2.alloc (.cells #[.int .i64 0, .int .i64 W.a, .int .i64 W.b, .int .i64 W.c, .int .i64 W.d] 105)).alloc (.cells #[.int .i64 W.a, .int .i64 W.b, .int .i64 W.c, .int .i64 W.d, .slice (some ⟨w2.heap.size, 0, none⟩) 1 1] 108)).heap[w2.heap.size]? = some (.cells #[.int .i64 0, .int .i64 W.a, .int .i64 W.b, .int .i64 W.c, .int .i64 W.d] 105 (0, 0)) := heapA (heap_new w2 _)
  have hp : ((w2.alloc (.cells #[.int .i64 0, .int .i64 W.a, .int .i64 W.b, .int .i64 W.c, .int .i64 W.d] 105)).alloc (.cells #[.int .i64 W.a, .int .i64 W.b, .int .i64 W.c, .int .i64 W.d, .slice (some ⟨w2.heap.size, 0, none⟩) 1 1] 108)).heap[w2.heap.size + 1]? = some (.cells #[.int .i64 W.a, .int .i64 W.b, .int .i64 W.c, .int .i64 W.d, .slice (some ⟨w2.heap.size, 0, none⟩) 1 1] 108 (0, 0)) := by simpa using heap_new (w2.alloc (.cells #[.int .i64 0, .int .i64 W.a, .int .i64 W.b, .int .i64 W.c, .int .i64 W.d] 105)) (.cells #[.int .i64 W.a, .int .i64 W.b, .int .i64 W.c, .int .i64 W.d, .slice (some ⟨w2.heap.size, 0, none⟩) 1 1] 108)
  have hs := g2.out.size
  exact ⟨w2.heap.size + 1, w2.heap.size, rfl, ⟨hp, ⟨_, _, hb, rfl⟩, Nat.le_refl _, by omega, by omega, by omega⟩, by omega, hs, (g2.out.alloc hs _).alloc (by simp; omega) _⟩
theorem new_no (W : V4) (hW : W.okB = false) (w : World) : Calls Try.prog 31 #[.agg #[.int .i64 W.a, .int .i64 W.b, .int .i64 W.c, .int .i64 W.d]] w fun e w' => e = .returned (.pointer none) ∧ Below w.heap.size w w' := by
  have KR : Hid (∀ w1, Calls Try.prog 34 #[.agg #[.int .i64 W.a, .int .i64 W.b, .int .i64 W.c, .int .i64 W.d]] w1 fun e w' => e = .returned (.bool false) ∧ Below w1.heap.size w1 w') := hid fun w1 => by
    have h := right4 W w1
    rw [hW] at h
    exact h
  have g0 := hid (show Below w.heap.size w (w.alloc (.cells #[.int .i64 W.a, .int .i64 W.b, .int .i64 W.c, .int .i64 W.d] 40)) from by go_grown)
  clear hW
  go_enter Try.func31, Try.ntmps31
  go_wp2_with fail
  refine (KR.out _).mono ?_
  rintro _ w2 ⟨rfl, hb⟩
  have g2 := hid (below_step g0.out g0.out.size hb)
  clear hb
  go_wp2_with fail
  go_returns
  exact ⟨rfl, g2.out⟩
/-- Is an amount free from a tick on, for so many? -/
def Fit (f : Int → V4) (v : V4) (t k : Int) : Prop := ∀ u, t ≤ u → u < t + k → v.le (f u)
def EarlPost (w : World) (f : Int → V4) (v : V4) (a k : Int) (e : Ending) (w' : World) : Prop :=
  Below w.heap.size w w' ∧ ((∃ t, e = .returned (.tuple #[.int .i64 t, .bool true]) ∧ a ≤ t ∧ t ≤ 1099511627776 - k ∧ Fit f v t k ∧ ∀ u, a ≤ u → u < t → ¬ Fit f v u k) ∨
    (e = .returned (.tuple #[.int .i64 0, .bool false]) ∧ ∀ u, a ≤ u → u ≤ 1099511627776 - k → ¬ Fit f v u k))
theorem fit_next {n : Nat} {T : Nat → Int} {V : Nat → V4} {f : Int → V4} {v : V4} {s k : Int} {j : Nat} (hR : Rp n T V 1099511627777 f) (hj : j + 1 < n) (h1 : T j < s + k) (hs : 0 ≤ s) (hk : 1 ≤ k) (hv : ¬ v.le (V j)) : ∀ u, s ≤ u → u < T (j + 1) → ¬ Fit f v u k := by
  intro u hu1 hu2 hF
  have hup := hR.up j hj
  have hlt := hR.lt (j + 1) hj
  have h0 := hR.le (i := 0) (j := j) (by omega) (by omega)
  rw [hR.zero (by omega)] at h0
  have := hF (max u (T j)) (by omega) (by omega)
  rw [hR.fn j (by omega) _ (by omega) (fun _ => by omega) (by omega)] at this
  exact hv this
theorem fit_none {n : Nat} {T : Nat → Int} {V : Nat → V4} {f : Int → V4} {v : V4} {s k : Int} {j : Nat} (hR : Rp n T V 1099511627777 f) (hj : j + 1 = n) (h1 : T j < s + k) (_ : 0 ≤ s) (hk : 1 ≤ k) (hv : ¬ v.le (V j)) : ∀ u, s ≤ u → u ≤ 1099511627776 - k → ¬ Fit f v u k := by
  intro u hu1 hu2 hF
  have := hF (max u (T j)) (by omega) (by omega)
  rw [hR.fn j (by omega) _ (by omega) (fun _ => by omega) (by omega)] at this
  exact hv this
theorem fit_yes {n : Nat} {T : Nat → Int} {V : Nat → V4} {f : Int → V4} {v : V4} {s k : Int} {i j : Nat} (hR : Rp n T V 1099511627777 f) (hi : i < n) (hi1 : T i ≤ s) (hs : 0 ≤ s) (hsk : s ≤ 1099511627776 - k) (hj : j ≤ n) (hj2 : j < n → s + k ≤ T j) (hv : ∀ l, i ≤ l → l < j → v.le (V l)) : Fit f v s k := by
  intro u hu1 hu2
  obtain ⟨l, l1, l2, l3⟩ := hR.anyT (t := u) (by omega) (by omega)
  rw [hR.fn l l1 u l2 l3 (by omega)]
  refine hv l ?_ ?_
  · rcases Nat.lt_or_ge l i with hl | hl
    · have := l3 (by omega)
      have := hR.le (i := l + 1) (j := i) (by omega) (by omega)
      omega
    · exact hl
  · rcases Nat.lt_or_ge l j with hl | hl
    · exact hl
    · have := hj2 (by omega)
      have := hR.le (i := j) (j := l) (by omega) l1
      omega
set_option maxRecDepth 100000 in
set_option maxHeartbeats 2000000 in
theorem earliest_any (p b cap : Nat) (W : V4) (n : Nat) (T : Nat → Int) (V : Nat → V4) (fn : Int → V4) (a k : Int) (v : V4) (w : World) (h : PV w p b cap W n T V) (hR : Rp n T V 1099511627777 fn) (hv : v.okB = true) (hk1 : 1 ≤ k) (hk2 : k ≤ 1099511627776) (ha : a ≤ 9223372036854775807) :
    Calls Try.prog 40 #[.pointer (some ⟨p, 0, none⟩), .int .i64 a, .int .i64 k, .agg #[.int .i64 v.a, .int .i64 v.b, .int .i64 v.c, .int .i64 v.d]] w (EarlPost w fn v (max a 0) k) := by
  have KM : Hid (∀ w1, PV w1 p b cap W n T V → Calls Try.prog 65 #[.pointer (some ⟨p, 0, none⟩)] w1 fun e w' => e = .returned (.bool true) ∧ w1 = w') := hid fun w1 h1 => made_any p b cap W n T V w1 h1
  have KR : Hid (∀ w1, Calls Try.prog 34 #[.agg #[.int .i64 v.a, .int .i64 v.b, .int .i64 v.c, .int .i64 v.d]] w1 fun e w' => e = .returned (.bool true) ∧ Below w1.heap.size w1 w') := hid fun w1 => by
    have h := right4 v w1
    rw [hv] at h
    exact h
  have KP : Hid (∀ w1 i s, PV w1 p b cap W n T V → i < n → T i ≤ s → (i + 1 < n → s < T (i + 1)) → Calls Try.prog 66 #[.pointer (some ⟨p, 0, none⟩), .int .i64 s] w1 fun e w' => e = .returned (.int .i64 i) ∧ Below w1.heap.size w1 w') := hid fun w1 i s h1 h2 h3 h4 => place_any p b cap W n T V i s w1 h1 (fun x y hxy hy => hR.le hxy hy) h2 h3 h4
  have HR := hid hR
  have hnl := h.nl
  have hpl := lt_of h.h
  have hbl := h.s.lt
  have X0 := hid (heap_new w (.cells #[.int .i64 v.a, .int .i64 v.b, .int .i64 v.c, .int .i64 v.d] 40))
  have P0 := hid (h.A (.cells #[.int .i64 v.a, .int .i64 v.b, .int .i64 v.c, .int .i64 v.d] 40))
  have g0 := hid (show Below w.heap.size w (w.alloc (.cells #[.int .i64 v.a, .int .i64 v.b, .int .i64 v.c, .int .i64 v.d] 40)) from by go_grown)
  obtain ⟨x0, x1, x2, x3⟩ := four X0.out
  obtain ⟨A, hA⟩ : ∃ A, max a 0 = A := ⟨_, rfl⟩
  have hA0 : 0 ≤ A := by omega
  have hA1 : A ≤ 9223372036854775807 := by omega
  have hd1 : decide (k < 1) = false := by simp; omega
  have hd2 : decide (1099511627776 < k) = false := by simp; omega
  rw [hA]
  clear hR hv h ha
  go_enter Try.func40, Try.ntmps40
  go_wp2_with fail
  go_step3
  go_wp2_with (first | (go_at_call 65; (with_reducible refine (KM.out _ P0.out).mono ?_); rintro _ w2 ⟨rfl, rfl⟩) | (go_at_call 34; (with_reducible refine (KR.out _).mono ?_); rintro _ w3 ⟨rfl, hb⟩; have g3 := hid (below_step g0.out g0.out.size hb); have P3 := hid (P0.out.keep hb); have X3 := hid (keep0 hb X0.out); clear hb))
  go_step3
  go_wp2_with fail
  clear KM KR g0 P0 X0 x0 x1 x2 x3 hd1 hd2
  go_loopg [10] (1099511627776 - A).toNat (fun kx x wr => ∃ s : Int, x = .int .i64 s ∧ A ≤ s ∧ s ≤ 9223372036854775807 ∧ (1099511627776 - s).toNat ≤ kx ∧ (∀ u, A ≤ u → u < s → ¬ Fit fn v u k) ∧ Below w.heap.size w wr ∧ PV wr p b cap W n T V ∧ wr.heap[w.heap.size]? = some (.cells #[.int .i64 v.a, .int .i64 v.b, .int .i64 v.c, .int .i64 v.d] 40 (0, 0)))
  case atStart => exact ⟨A, rfl, Int.le_refl _, hA1, Nat.le_refl _, fun u h1 h2 => by omega, g3.out, P3.out, X3.out⟩
  case round =>
    clear g3 P3 X3 hA
    obtain ⟨s, rfl, hs1, hs2, hkx, hs3, hg, hp, hx⟩ := hrel
    have HS := hid hs3
    have HG := hid hg
    have HP := hid hp
    have HX := hid hx
    clear hs3 hg hp hx
    by_cases hsk : s ≤ 1099511627776 - k
    · obtain ⟨i, hi, hi1, hi2⟩ := HR.out.anyT (t := s) (by omega) (by omega)
      have KP2 := hid (fun w1 h1 => KP.out w1 i s h1 hi hi1 hi2)
      have hsi : T i ≤ s := hi1
      have hs0 : 0 ≤ s := by omega
      have hsk1 : s + k ≤ 1099511627776 := by omega
      have hsk2 : 0 ≤ s + k := by omega
      have HI2 := hid (show ∀ m, i < m → m < n → s < T m from fun m h1 h2 => by
        have := hi2 (by omega)
        have := HR.out.le (i := i + 1) (j := m) (by omega) h2
        omega)
      clear hi2 hi1
      go_wp2_with (go_at_call 66; (with_reducible refine (KP2.out _ HP.out).mono ?_); rintro _ w4 ⟨rfl, hb⟩; have g4 := hid (below_step HG.out HG.out.size hb); have P4 := hid (HP.out.keep hb); have X4 := hid (keep0 hb HX.out); clear hb)
      go_loopg [10, 11] (n - i) (fun ky z x wr => ∃ j : Nat, z = .int .i64 s ∧ x = .int .i64 j ∧ i ≤ j ∧ j ≤ n ∧ n - j ≤ ky ∧ (∀ l, i ≤ l → l < j → v.le (V l)) ∧ Below w.heap.size w wr ∧ PV wr p b cap W n T V ∧ wr.heap[w.heap.size]? = some (.cells #[.int .i64 v.a, .int .i64 v.b, .int .i64 v.c, .int .i64 v.d] 40 (0, 0)))
      case atStart => exact ⟨i, rfl, rfl, Nat.le_refl _, by omega, Nat.le_refl _, fun l h1 h2 => by omega, g4.out, P4.out, X4.out⟩
      case round =>
        clear g4 P4 X4 HG HP HX
        obtain ⟨j, rfl, rfl, hij, hjn, hky, hv, hg, hp, hx⟩ := hrel
        have HV := hid hv
        have HG := hid hg
        have HP := hid hp
        have HX := hid hx
        clear hv hg hp hx
        obtain ⟨x0, x1, x2, x3⟩ := four HX.out
        obtain ⟨c0, c1, c2, c3, c4⟩ := five HP.out.h
        by_cases hj : j < n
        · have hj' : (j : Int) < (n : Int) := by omega
          obtain ⟨y0, y1, y2, y3, y4⟩ := HP.out.s.cells (i := j) hj
          by_cases hT : T j < s + k
          · have KF := hid (fits4 v (V j))
            have hw1 : IntKind.i64.wrap ((j : Int) + 1) = (j : Int) + 1 := IntWalk.i64_in _ (by omega)
            have HSd := hid (show PV wr.drew p b cap W n T V ∧ wr.drew.heap[w.heap.size]? = some (.cells #[.int .i64 v.a, .int .i64 v.b, .int .i64 v.c, .int .i64 v.d] 40 (0, 0)) ∧ Below w.heap.size w wr.drew from ⟨HP.out.D, HX.out, dN HG.out 1⟩)
            cases hf : v.leB (V j) with
            | true =>
              have HV2 := hid (show ∀ l, i ≤ l → l < j + 1 → v.le (V l) from fun l h1 h2 => by
                rcases Nat.lt_or_ge l j with h | h
                · exact HV.out l h1 h
                · obtain rfl : l = j := by omega
                  exact (V4.leB_iff _ _).1 hf)
              rw [hf] at KF
              clear hf hw1
              have EQ := hid (fun (w1 : World) (h1 : Sl w1 b n T V) => h1.cells (i := j) hj)
              have hT' := hT
              generalize V j = vj at *
              generalize T j = tj at *
              go_wp2_with fail
              go_region_held3 (fun w' => (w'.cell? ⟨w.heap.size, 0, none⟩ = some (.int .i64 v.a) ∧ w'.cell? ⟨w.heap.size, 1, none⟩ = some (.int .i64 v.b) ∧ w'.cell? ⟨w.heap.size, 2, none⟩ = some (.int .i64 v.c) ∧ w'.cell? ⟨w.heap.size, 3, none⟩ = some (.int .i64 v.d)) ∧ w'.cell? ⟨p, 4, none⟩ = some (.slice (some ⟨b, 0, none⟩) n cap) ∧ w'.cell? ⟨b, j * 5 + 1, none⟩ = some (.int .i64 vj.a) ∧ w'.cell? ⟨b, j * 5 + 2, none⟩ = some (.int .i64 vj.b) ∧ w'.cell? ⟨b, j * 5 + 3, none⟩ = some (.int .i64 vj.c) ∧ w'.cell? ⟨b, j * 5 + 4, none⟩ = some (.int .i64 vj.d)) (first | exact ⟨⟨x0, x1, x2, x3⟩, c4, y1, y2, y3, y4⟩ | exact ⟨⟨xx0, xx1, xx2, xx3⟩, cc4, yy1, yy2, yy3, yy4⟩ | go_keep) (first | (go_at_call 60; (with_reducible refine (KF.out _).mono ?_); rintro _ w5 ⟨rfl, hb⟩; have g5 := hid (below_step HG.out HG.out.size (unD hb)); have P5 := hid (HP.out.keep (unD hb)); have X5 := hid (keep0 (unD hb) HX.out); obtain ⟨xx0, xx1, xx2, xx3⟩ := four X5.out; have cc4 := (five P5.out.h).2.2.2.2; obtain ⟨yy0, yy1, yy2, yy3, yy4⟩ := EQ.out _ P5.out.s; clear hb))
              all_goals go_wp2_with fail
              all_goals go_roundg (n - (j + 1))
              case measure => omega
              case rel => exact ⟨j + 1, rfl, by go_num, by omega, by omega, Nat.le_refl _, HV2.out, g5.out, P5.out, X5.out⟩
            | false =>
              have hnv : ¬ v.le (V j) := fun h => by rw [(V4.leB_iff _ _).2 h] at hf; cases hf
              rw [hf] at KF
              by_cases hl : j + 1 = n
              · have HN := hid (fit_none HR.out hl hT hs0 hk1 hnv)
                have HN2 := hid (show ∀ u, A ≤ u → u ≤ 1099511627776 - k → ¬ Fit fn v u k from fun u h1 h2 => by
                  rcases Int.lt_or_le u s with h | h
                  · exact HS.out u h1 h
                  · exact HN.out u h h2)
                have hlz : (j : Int) + 1 = (n : Int) := by omega
                have EQ := hid (fun (w1 : World) (h1 : Sl w1 b n T V) => h1.cells (i := j) hj)
                have hlb : ((j : Int) + 1 == (n : Int)) = true := by simpa using hlz
                clear hf hnv hl hlz HN
                generalize V j = vj at *
                generalize T j = tj at *
                go_wp2_with fail
                go_region_held3 (fun w' => (w'.cell? ⟨w.heap.size, 0, none⟩ = some (.int .i64 v.a) ∧ w'.cell? ⟨w.heap.size, 1, none⟩ = some (.int .i64 v.b) ∧ w'.cell? ⟨w.heap.size, 2, none⟩ = some (.int .i64 v.c) ∧ w'.cell? ⟨w.heap.size, 3, none⟩ = some (.int .i64 v.d)) ∧ w'.cell? ⟨p, 4, none⟩ = some (.slice (some ⟨b, 0, none⟩) n cap) ∧ w'.cell? ⟨b, j * 5 + 1, none⟩ = some (.int .i64 vj.a) ∧ w'.cell? ⟨b, j * 5 + 2, none⟩ = some (.int .i64 vj.b) ∧ w'.cell? ⟨b, j * 5 + 3, none⟩ = some (.int .i64 vj.c) ∧ w'.cell? ⟨b, j * 5 + 4, none⟩ = some (.int .i64 vj.d)) (first | exact ⟨⟨x0, x1, x2, x3⟩, c4, y1, y2, y3, y4⟩ | exact ⟨⟨xx0, xx1, xx2, xx3⟩, cc4, yy1, yy2, yy3, yy4⟩ | go_keep) (first | (go_at_call 60; (with_reducible refine (KF.out _).mono ?_); rintro _ w5 ⟨rfl, hb⟩; have g5 := hid (below_step HG.out HG.out.size (unD hb)); have P5 := hid (HP.out.keep (unD hb)); have X5 := hid (keep0 (unD hb) HX.out); obtain ⟨xx0, xx1, xx2, xx3⟩ := four X5.out; have cc4 := (five P5.out.h).2.2.2.2; obtain ⟨yy0, yy1, yy2, yy3, yy4⟩ := EQ.out _ P5.out.s; clear hb))
                go_wp2_with fail
                try rw [Exit.noGoto_ret]
                go_returns
                exact ⟨g5.out, .inr ⟨rfl, HN2.out⟩⟩
              · have hup := HR.out.up j (by omega)
                obtain ⟨q0, _, _, _, _⟩ := HP.out.s.cells (i := j + 1) (by omega)
                have hTj := HR.out.lt (j + 1) (by omega)
                have HN := hid (fit_next HR.out (by omega) hT hs0 hk1 hnv)
                have HN2 := hid (show ∀ u, A ≤ u → u < T (j + 1) → ¬ Fit fn v u k from fun u h1 h2 => by
                  rcases Int.lt_or_le u s with h | h
                  · exact HS.out u h1 h
                  · exact HN.out u h h2)
                have EQ := hid (fun (w1 : World) (h1 : Sl w1 b n T V) => h1.cells (i := j) hj)
                have EQ2 := hid (fun (w1 : World) (h1 : Sl w1 b n T V) => (h1.cells (i := j + 1) (by omega)).1)
                have hj1 : (j : Int) + 1 < (n : Int) := by omega
                have hlb : ((j : Int) + 1 == (n : Int)) = false := by simp; omega
                have hsj : s < T (j + 1) := HI2.out (j + 1) (by omega) (by omega)
                clear hf hnv hl HN q0
                generalize V j = vj at *
                generalize T j = tj at *
                generalize T (j + 1) = tk at *
                go_wp2_with fail
                go_region_held3 (fun w' => (w'.cell? ⟨w.heap.size, 0, none⟩ = some (.int .i64 v.a) ∧ w'.cell? ⟨w.heap.size, 1, none⟩ = some (.int .i64 v.b) ∧ w'.cell? ⟨w.heap.size, 2, none⟩ = some (.int .i64 v.c) ∧ w'.cell? ⟨w.heap.size, 3, none⟩ = some (.int .i64 v.d)) ∧ w'.cell? ⟨p, 4, none⟩ = some (.slice (some ⟨b, 0, none⟩) n cap) ∧ w'.cell? ⟨b, j * 5 + 1, none⟩ = some (.int .i64 vj.a) ∧ w'.cell? ⟨b, j * 5 + 2, none⟩ = some (.int .i64 vj.b) ∧ w'.cell? ⟨b, j * 5 + 3, none⟩ = some (.int .i64 vj.c) ∧ w'.cell? ⟨b, j * 5 + 4, none⟩ = some (.int .i64 vj.d)) (first | exact ⟨⟨x0, x1, x2, x3⟩, c4, y1, y2, y3, y4⟩ | exact ⟨⟨xx0, xx1, xx2, xx3⟩, cc4, yy1, yy2, yy3, yy4⟩ | go_keep) (first | (go_at_call 60; (with_reducible refine (KF.out _).mono ?_); rintro _ w5 ⟨rfl, hb⟩; have g5 := hid (below_step HG.out HG.out.size (unD hb)); have P5 := hid (HP.out.keep (unD hb)); have X5 := hid (keep0 (unD hb) HX.out); obtain ⟨xx0, xx1, xx2, xx3⟩ := four X5.out; have cc4 := (five P5.out.h).2.2.2.2; obtain ⟨yy0, yy1, yy2, yy3, yy4⟩ := EQ.out _ P5.out.s; clear hb))
                have q0 := EQ2.out _ P5.out.s
                go_wp2_with fail
                go_roundg (1099511627776 - tk).toNat
                case measure => omega
                case rel => exact ⟨tk, rfl, by omega, by omega, Nat.le_refl _, HN2.out, g5.out, P5.out, X5.out⟩
          · have HY := hid (fit_yes (v := v) HR.out hi hsi (by omega) hsk hjn (fun _ => by omega) HV.out)
            generalize T j = tj at *
            go_wp2_with fail
            try rw [Exit.noGoto_ret]
            go_returns
            exact ⟨HG.out, .inl ⟨s, rfl, hs1, hsk, HY.out, HS.out⟩⟩
        · obtain rfl : j = n := by omega
          have HY := hid (fit_yes (v := v) HR.out hi hsi (by omega) hsk hjn (fun h => absurd h (Nat.lt_irrefl _)) HV.out)
          go_wp2_with fail
          try rw [Exit.noGoto_ret]
          go_returns
          exact ⟨HG.out, .inl ⟨s, rfl, hs1, hsk, HY.out, HS.out⟩⟩
    · have hsk' : 1099511627776 - k < s := by omega
      have HS2 := hid (show ∀ u, A ≤ u → u ≤ 1099511627776 - k → ¬ Fit fn v u k from fun u h1 h2 => HS.out u h1 (by omega))
      go_wp2_with fail
      go_returns
      exact ⟨HG.out, .inr ⟨rfl, HS2.out⟩⟩
/-- With what may not be there is no such tick. -/
theorem earliest_bad (p b cap : Nat) (W : V4) (n : Nat) (T : Nat → Int) (V : Nat → V4) (a k : Int) (v : V4) (w : World) (h : PV w p b cap W n T V) (hb : k < 1 ∨ 1099511627776 < k ∨ v.okB = false) :
    Calls Try.prog 40 #[.pointer (some ⟨p, 0, none⟩), .int .i64 a, .int .i64 k, .agg #[.int .i64 v.a, .int .i64 v.b, .int .i64 v.c, .int .i64 v.d]] w fun e w' => e = .returned (.tuple #[.int .i64 0, .bool false]) ∧ Below w.heap.size w w' := by
  have KM : Hid (∀ w1, PV w1 p b cap W n T V → Calls Try.prog 65 #[.pointer (some ⟨p, 0, none⟩)] w1 fun e w' => e = .returned (.bool true) ∧ w1 = w') := hid fun w1 h1 => made_any p b cap W n T V w1 h1
  have X0 := hid (heap_new w (.cells #[.int .i64 v.a, .int .i64 v.b, .int .i64 v.c, .int .i64 v.d] 40))
  have P0 := hid (h.A (.cells #[.int .i64 v.a, .int .i64 v.b, .int .i64 v.c, .int .i64 v.d] 40))
  have g0 := hid (show Below w.heap.size w (w.alloc (.cells #[.int .i64 v.a, .int .i64 v.b, .int .i64 v.c, .int .i64 v.d] 40)) from by go_grown)
  obtain ⟨x0, x1, x2, x3⟩ := four X0.out
  have KR := hid (right4 v)
  clear h
  have hd : decide (k < 1) = true ∨ (decide (k < 1) = false ∧ decide (1099511627776 < k) = true) ∨ (decide (k < 1) = false ∧ decide (1099511627776 < k) = false ∧ v.okB = false) := by
    by_cases h1 : k < 1
    · exact .inl (by simpa using h1)
    · by_cases h2 : 1099511627776 < k
      · exact .inr (.inl ⟨by simpa using h1, by simpa using h2⟩)
      · exact .inr (.inr ⟨by simpa using h1, by simpa using h2, by
          rcases hb with hb | hb | hb
          · exact absurd hb h1
          · exact absurd hb h2
          · exact hb⟩)
  clear hb
  rcases hd with h1 | ⟨h1, h2⟩ | ⟨h1, h2, h3⟩
  · go_enter Try.func40, Try.ntmps40
    go_wp2_with fail
    go_step3
    go_wp2_with (first | (go_at_call 65; (with_reducible refine (KM.out _ P0.out).mono ?_); rintro _ w2 ⟨rfl, rfl⟩))
    try rw [Exit.noGoto_ret]
    go_returns
    exact ⟨rfl, g0.out⟩
  · go_enter Try.func40, Try.ntmps40
    go_wp2_with fail
    go_step3
    go_wp2_with (first | (go_at_call 65; (with_reducible refine (KM.out _ P0.out).mono ?_); rintro _ w2 ⟨rfl, rfl⟩))
    try rw [Exit.noGoto_ret]
    go_returns
    exact ⟨rfl, g0.out⟩
  · rw [h3] at KR
    clear h3
    go_enter Try.func40, Try.ntmps40
    go_wp2_with fail
    go_step3
    go_wp2_with (first | (go_at_call 65; (with_reducible refine (KM.out _ P0.out).mono ?_); rintro _ w2 ⟨rfl, rfl⟩) | (go_at_call 34; (with_reducible refine (KR.out _).mono ?_); rintro _ w3 ⟨rfl, hb⟩; have g3 := hid (below_step g0.out g0.out.size hb); clear hb))
    try rw [Exit.noGoto_ret]
    go_returns
    exact ⟨rfl, g3.out⟩
theorem earliest_nil (a k : Int) (v : V4) (w : World) :
    Calls Try.prog 40 #[.pointer none, .int .i64 a, .int .i64 k, .agg #[.int .i64 v.a, .int .i64 v.b, .int .i64 v.c, .int .i64 v.d]] w fun e w' => e = .returned (.tuple #[.int .i64 0, .bool false]) ∧ Below w.heap.size w w' := by
  have KM := hid made_nil
  have g0 := hid (show Below w.heap.size w (w.alloc (.cells #[.int .i64 v.a, .int .i64 v.b, .int .i64 v.c, .int .i64 v.d] 40)) from by go_grown)
  go_enter Try.func40, Try.ntmps40
  go_wp2_with fail
  go_step3
  go_wp2_with (first | (go_at_call 65; (with_reducible refine (KM.out _).mono ?_); rintro _ w2 ⟨rfl, rfl⟩))
  try rw [Exit.noGoto_ret]
  go_returns
  exact ⟨rfl, g0.out⟩
end Go.Proofs.Ythkofnahimlijaa
